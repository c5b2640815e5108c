import Derived.Test.YtgmangikcfakgaaGreatDoorPA19
import Derived.Test.YtgmangikcfakgaaGreatDoorPA26
set_option maxRecDepth 100000
set_option maxHeartbeats 40000000
namespace Go.Proofs.YtgmangikcfakgaaGreatDoor
open Go.RowKit Sh Jt Js Jo
namespace Jo
def kindB (k:Int) (t:List UInt8) (n:Int):Bool:=if k=0∨k=1∨k=2 then t.isEmpty && decide (n=0)
  else if k=3 then !t.isEmpty && decide (numF t=t.length) && decide (n=0)
  else if k=4 then validF t && decide (n=0)
  else if k=5∨k=6 then t.isEmpty && decide (0≤n) else false
theorem qzc (k n:Int) (key t:List UInt8) (o:Bool):ownB ⟨k,key,t,n⟩ o=((o || key.isEmpty) && validF key && kindB k t n):=rfl
end Jo
theorem q1g (w:World) (v:V) (o:Bool) (hk:v.key.length≤1000000000) (ht:v.text.length≤1000000000):Calls Tryz.prog 142 #[.agg (vv v).toArray, .bool o] w fun e w'=> e= .returned (.bool (ownB v o))∧Hid (Below w.heap.size w w'):=by
 obtain ⟨k,key,t,n⟩:=v
 dsimp only at hk ht
 have HB:=Qh (below_alloc' w (.cells #[.int .i64 k, .string (sb key), .string (sb t), .int .i64 n] 72))
 have HR0:=Qh (Row.new w 72 [.int .i64 k, .string (sb key), .string (sb t), .int .i64 n])
 have HVK:=Qh (fun W=> qni W key hk)
 have HVT:=Qh (fun W=> qni W t ht)
 have HN:=Qh (fun W=> qen W t ht)
 obtain ⟨RV,hRV⟩:∃RV,RV=ownB ⟨k,key,t,n⟩ o:=⟨_,rfl⟩
 rw [←hRV]
 rw [qzc]at hRV
 have HRV:=Qh hRV
 clear hRV
 show Calls _ _ #[.agg #[.int .i64 k, .string (sb key), .string (sb t), .int .i64 n], .bool o] _ _
 have c1:(w.alloc (.cells #[.int .i64 k, .string (sb key), .string (sb t), .int .i64 n] 72)).cell? ⟨w.heap.size,1,none⟩=some (.string (sb key)):=HR0.out.cell rfl
 have hsz:=qag t
 by_cases hko:(o || key.isEmpty)=true
 ·cases hvk:validF key with
  | false=>
   have HX:Hid (RV=false):=Qh (by rw [HRV.out,hvk,Bool.and_false];rfl)
   rw [hvk]at HVK
   clear hvk HRV HN HVT;cases o with
   | true=>
    go_enter Tryz.func142,Tryz.ntmps142
    go_wp2_with fail;refine (HVK.out _).mono ?_
    rintro e w1 ⟨rfl,K1⟩;have HB1:=Qh (HB.out.trans (K1.mono HB.out.size))
    have HR1:=Qh (HR0.out.below K1 HR0.out.lt)
    have e0:w1.cell? ⟨w.heap.size,0,none⟩=some (.int .i64 k):=HR1.out.cell rfl
    have e1:w1.cell? ⟨w.heap.size,1,none⟩=some (.string (sb key)):=HR1.out.cell rfl
    have e2:w1.cell? ⟨w.heap.size,2,none⟩=some (.string (sb t)):=HR1.out.cell rfl
    have e3:w1.cell? ⟨w.heap.size,3,none⟩=some (.int .i64 n):=HR1.out.cell rfl
    clear K1 HVK HB HR0 c1;clear hko;go_wp2_with fail;go_ret;exact ⟨by rw [HX.out];rfl,HB1⟩
   | false=>
    obtain rfl:key=[]:=List.isEmpty_iff.1 hko
    have g1:(sb []).toList=[]:=qab _
    have g2:(sb []).toList.isEmpty=true:=by rw [g1];rfl
    go_enter Tryz.func142,Tryz.ntmps142
    go_wp2_with fail;refine (HVK.out _).mono ?_
    rintro e w1 ⟨rfl,K1⟩;have HB1:=Qh (HB.out.trans (K1.mono HB.out.size))
    have HR1:=Qh (HR0.out.below K1 HR0.out.lt)
    have e0:w1.cell? ⟨w.heap.size,0,none⟩=some (.int .i64 k):=HR1.out.cell rfl
    have e1:w1.cell? ⟨w.heap.size,1,none⟩=some (.string (sb [])):=HR1.out.cell rfl
    have e2:w1.cell? ⟨w.heap.size,2,none⟩=some (.string (sb t)):=HR1.out.cell rfl
    have e3:w1.cell? ⟨w.heap.size,3,none⟩=some (.int .i64 n):=HR1.out.cell rfl
    clear K1 HVK HB HR0 c1;go_wp2_with fail;go_ret;exact ⟨by rw [HX.out];rfl,HB1⟩
  | true=>
   have HK:Hid (RV=kindB k t n):=Qh (by rw [HRV.out,hvk,hko,Bool.true_and,Bool.true_and])
   rw [hvk]at HVK
   clear hvk;cases o with
   | true=>
    go_enter Tryz.func142,Tryz.ntmps142
    go_wp2_with fail;refine (HVK.out _).mono ?_
    rintro e w1 ⟨rfl,K1⟩;have HB1:=Qh (HB.out.trans (K1.mono HB.out.size))
    have HR1:=Qh (HR0.out.below K1 HR0.out.lt)
    have e0:w1.cell? ⟨w.heap.size,0,none⟩=some (.int .i64 k):=HR1.out.cell rfl
    have e1:w1.cell? ⟨w.heap.size,1,none⟩=some (.string (sb key)):=HR1.out.cell rfl
    have e2:w1.cell? ⟨w.heap.size,2,none⟩=some (.string (sb t)):=HR1.out.cell rfl
    have e3:w1.cell? ⟨w.heap.size,3,none⟩=some (.int .i64 n):=HR1.out.cell rfl
    clear K1 HVK HB HR0 c1;clear hko;by_cases k0:k=0
    ·subst k0
     by_cases ht0:t=[]
     ·subst ht0
      have h1:(sb []).toList=[]:=qab _
      have h2:(sb []).toList.isEmpty=true:=by rw [h1];rfl
      by_cases hn:n=0
      ·subst hn
       have HX:Hid (RV=true):=Qh HK.out
       clear HN HVT HK HRV;go_wp2_with fail;go_ret;exact ⟨by rw [HX.out];rfl,HB1⟩
      ·have hnb:(n==0)=false:=beq_eq_false_iff_ne.2 hn
       have HX:Hid (RV=false):=Qh (by rw [HK.out];unfold kindB;rw [if_pos (by decide),decide_eq_false hn,Bool.and_false])
       clear HN HVT HK HRV;go_wp2_with fail;go_ret;exact ⟨by rw [HX.out];rfl,HB1⟩
     ·have h1:¬(sb t).toList=[]:=by rw [qab];exact ht0
      have h2:(sb t).toList.isEmpty=false:=by rw [qab];exact List.isEmpty_eq_false_iff.2 ht0
      have h3:((sb t).toList==[])=false:=by rw [qab];exact beq_eq_false_iff_ne.2 ht0
      have HX:Hid (RV=false):=Qh (by rw [HK.out];unfold kindB;rw [if_pos (by decide),List.isEmpty_eq_false_iff.2 ht0,Bool.false_and])
      clear HN HVT HK HRV;generalize sb t=S at*;go_wp2_with fail;go_ret;exact ⟨by rw [HX.out];rfl,HB1⟩
    by_cases k1:k=1
    ·subst k1
     by_cases ht0:t=[]
     ·subst ht0
      have h1:(sb []).toList=[]:=qab _
      have h2:(sb []).toList.isEmpty=true:=by rw [h1];rfl
      by_cases hn:n=0
      ·subst hn
       have HX:Hid (RV=true):=Qh HK.out
       clear HN HVT HK HRV;go_wp2_with fail;go_ret;exact ⟨by rw [HX.out];rfl,HB1⟩
      ·have hnb:(n==0)=false:=beq_eq_false_iff_ne.2 hn
       have HX:Hid (RV=false):=Qh (by rw [HK.out];unfold kindB;rw [if_pos (by decide),decide_eq_false hn,Bool.and_false])
       clear HN HVT HK HRV;go_wp2_with fail;go_ret;exact ⟨by rw [HX.out];rfl,HB1⟩
     ·have h1:¬(sb t).toList=[]:=by rw [qab];exact ht0
      have h2:(sb t).toList.isEmpty=false:=by rw [qab];exact List.isEmpty_eq_false_iff.2 ht0
      have h3:((sb t).toList==[])=false:=by rw [qab];exact beq_eq_false_iff_ne.2 ht0
      have HX:Hid (RV=false):=Qh (by rw [HK.out];unfold kindB;rw [if_pos (by decide),List.isEmpty_eq_false_iff.2 ht0,Bool.false_and])
      clear HN HVT HK HRV;generalize sb t=S at*;go_wp2_with fail;go_ret;exact ⟨by rw [HX.out];rfl,HB1⟩
    by_cases k2:k=2
    ·subst k2
     by_cases ht0:t=[]
     ·subst ht0
      have h1:(sb []).toList=[]:=qab _
      have h2:(sb []).toList.isEmpty=true:=by rw [h1];rfl
      by_cases hn:n=0
      ·subst hn
       have HX:Hid (RV=true):=Qh HK.out
       clear HN HVT HK HRV;go_wp2_with fail;go_ret;exact ⟨by rw [HX.out];rfl,HB1⟩
      ·have hnb:(n==0)=false:=beq_eq_false_iff_ne.2 hn
       have HX:Hid (RV=false):=Qh (by rw [HK.out];unfold kindB;rw [if_pos (by decide),decide_eq_false hn,Bool.and_false])
       clear HN HVT HK HRV;go_wp2_with fail;go_ret;exact ⟨by rw [HX.out];rfl,HB1⟩
     ·have h1:¬(sb t).toList=[]:=by rw [qab];exact ht0
      have h2:(sb t).toList.isEmpty=false:=by rw [qab];exact List.isEmpty_eq_false_iff.2 ht0
      have h3:((sb t).toList==[])=false:=by rw [qab];exact beq_eq_false_iff_ne.2 ht0
      have HX:Hid (RV=false):=Qh (by rw [HK.out];unfold kindB;rw [if_pos (by decide),List.isEmpty_eq_false_iff.2 ht0,Bool.false_and])
      clear HN HVT HK HRV;generalize sb t=S at*;go_wp2_with fail;go_ret;exact ⟨by rw [HX.out];rfl,HB1⟩
    by_cases k3:k=3
    ·subst k3
     by_cases ht0:t=[]
     ·subst ht0
      have h1:(sb []).toList=[]:=qab _
      have h2:(sb []).toList.isEmpty=true:=by rw [h1];rfl
      have HX:Hid (RV=false):=Qh HK.out
      clear HN HVT HK HRV;go_upto_region 10 with fail;go_quiet (fail)
      have HB2:=Qh (qaa HB1.out nq)
      clear e0 e1 e2 e3 HB1;go_wp2_with fail;go_ret;exact ⟨by rw [HX.out];rfl,HB2⟩
     ·have h1:¬(sb t).toList=[]:=by rw [qab];exact ht0
      have h2:(sb t).toList.isEmpty=false:=by rw [qab];exact List.isEmpty_eq_false_iff.2 ht0
      have h3:((sb t).toList==[])=false:=by rw [qab];exact beq_eq_false_iff_ne.2 ht0
      obtain ⟨q,hq0⟩:∃q:Nat,q=numF t:=⟨_,rfl⟩
      obtain ⟨q2,hq2⟩:∃q2:Nat,q2=t.length:=⟨_,rfl⟩
      have HK2:Hid (RV=(decide (q=q2) && decide (n=0))):=Qh (by rw [HK.out,hq0,hq2];unfold kindB;rw [if_neg (by decide),if_pos rfl,List.isEmpty_eq_false_iff.2 ht0];rfl)
      rw [←hq0]at HN
      rw [←hq2]at hsz
      clear hq0 hq2 HK HVT HRV ht ht0;generalize sb t=S at*;by_cases hqq:q=q2
      ·subst hqq
       have hqb:((q:Int)==(q:Int))=true:=beq_self_eq_true _
       by_cases hn:n=0
       ·subst hn
        have HX:Hid (RV=true):=Qh (by rw [HK2.out];simp)
        clear HK2;have HCC:=Qh (fun W (k:Below (w1.drewN 1).heap.size (w1.drewN 1) W)=> show W.cell? ⟨w.heap.size,2,none⟩=some (.string S)∧W.cell? ⟨w.heap.size,3,none⟩=some (.int .i64 0)∧Below w.heap.size w W from ⟨(qad (below_undrew' k)).cell e2 (fun h=> h),(qad (below_undrew' k)).cell e3 (fun h=> h),HB1.out.trans ((below_undrew' k).mono HB1.out.size)⟩)
        have HNB:Hid (Calls Tryz.prog 104 #[.string S] (w1.drewN 1) fun e w'=> e= .returned (.int .i64 (q:Int))∧Below (w1.drewN 1).heap.size (w1.drewN 1) w'):=Qh ((HN.out (w1.drewN 1)).mono (fun e w2 h=> ⟨h.1,by rw [h.2];exact Below.refl _ _⟩))
        go_upto_region 10 with fail;generalize hBB:w.heap.size=B at*;go_region_held3 (fun x=> x.cell? ⟨B,2,none⟩=some (.string S)∧x.cell? ⟨B,3,none⟩=some (.int .i64 0)∧Below B w x) (first | exact ⟨e2,e3,qaa HB1.out 1⟩ | exact HY.out) (first | (go_at_call 104;refine HNB.out.mono ?_;rintro e w6 ⟨rfl,BB⟩;have HY:=Qh (HCC.out w6 BB)))
        have HB2:Hid (Below w.heap.size w _):=Qh (hBB▸HY.out.2.2)
        subst hBB;clear e0 e1 e2 e3 HB1 HN;go_wp2_with fail;go_ret;exact ⟨by rw [HX.out];rfl,HB2⟩
       ·have hnb:(n==0)=false:=beq_eq_false_iff_ne.2 hn
        have HX:Hid (RV=false):=Qh (by rw [HK2.out];simp [hn])
        clear HK2;have HCC:=Qh (fun W (k:Below (w1.drewN 1).heap.size (w1.drewN 1) W)=> show W.cell? ⟨w.heap.size,2,none⟩=some (.string S)∧W.cell? ⟨w.heap.size,3,none⟩=some (.int .i64 n)∧Below w.heap.size w W from ⟨(qad (below_undrew' k)).cell e2 (fun h=> h),(qad (below_undrew' k)).cell e3 (fun h=> h),HB1.out.trans ((below_undrew' k).mono HB1.out.size)⟩)
        have HNB:Hid (Calls Tryz.prog 104 #[.string S] (w1.drewN 1) fun e w'=> e= .returned (.int .i64 (q:Int))∧Below (w1.drewN 1).heap.size (w1.drewN 1) w'):=Qh ((HN.out (w1.drewN 1)).mono (fun e w2 h=> ⟨h.1,by rw [h.2];exact Below.refl _ _⟩))
        go_upto_region 10 with fail;generalize hBB:w.heap.size=B at*;go_region_held3 (fun x=> x.cell? ⟨B,2,none⟩=some (.string S)∧x.cell? ⟨B,3,none⟩=some (.int .i64 n)∧Below B w x) (first | exact ⟨e2,e3,qaa HB1.out 1⟩ | exact HY.out) (first | (go_at_call 104;refine HNB.out.mono ?_;rintro e w6 ⟨rfl,BB⟩;have HY:=Qh (HCC.out w6 BB)))
        have HB2:Hid (Below w.heap.size w _):=Qh (hBB▸HY.out.2.2)
        subst hBB;clear e0 e1 e2 e3 HB1 HN;go_wp2_with fail;go_ret;exact ⟨by rw [HX.out];rfl,HB2⟩
      ·have hqb:((q:Int)==(q2:Int))=false:=beq_eq_false_iff_ne.2 (by omega)
       have HX:Hid (RV=false):=Qh (by rw [HK2.out];simp [hqq])
       clear HK2;have HCC:=Qh (fun W (k:Below (w1.drewN 1).heap.size (w1.drewN 1) W)=> show W.cell? ⟨w.heap.size,2,none⟩=some (.string S)∧W.cell? ⟨w.heap.size,3,none⟩=some (.int .i64 n)∧Below w.heap.size w W from ⟨(qad (below_undrew' k)).cell e2 (fun h=> h),(qad (below_undrew' k)).cell e3 (fun h=> h),HB1.out.trans ((below_undrew' k).mono HB1.out.size)⟩)
       have HNB:Hid (Calls Tryz.prog 104 #[.string S] (w1.drewN 1) fun e w'=> e= .returned (.int .i64 (q:Int))∧Below (w1.drewN 1).heap.size (w1.drewN 1) w'):=Qh ((HN.out (w1.drewN 1)).mono (fun e w2 h=> ⟨h.1,by rw [h.2];exact Below.refl _ _⟩))
       go_upto_region 10 with fail;generalize hBB:w.heap.size=B at*;refine wp_region_held (S:=fun x=> x.cell? ⟨B,2,none⟩=some (.string S)∧x.cell? ⟨B,3,none⟩=some (.int .i64 n)∧Below B w x) (by kernel_rfl) ?_
       change wpAnyH _ _ _ _ _ _ _ _ (w1.drewN 1)
       have H0:Hid ((w1.drewN 1).cell? ⟨B,2,none⟩=some (.string S)∧(w1.drewN 1).cell? ⟨B,3,none⟩=some (.int .i64 n)∧Below B w (w1.drewN 1)):=Qh ⟨e2,e3,qaa HB1.out 1⟩
       generalize w1.drewN 1=w4 at*;refine wpAnyH_take (i:=0) (v:= ?_) rfl (by kernel_rfl) (by kernel_rfl) (by kernel_rfl) (fun _ _ _ h=> h) (Or.inl ⟨by rfl, ?_⟩) H0.out ?_
       rotate_left
       ·(intro v hv;obtain ⟨q4,q5,q6⟩:=hv;go_simp <;> with_reducible rfl)
       simp only [List.getElem_toArray,List.getElem_cons_zero,Act.put,List.setIfInBounds_toArray,List.set_cons_zero,List.set_cons_succ]
       refine wpAnyH_take (i:=1) (v:= ?_) rfl (by kernel_rfl) (by kernel_rfl) (by kernel_rfl) (fun _ _ _ h=> h) (Or.inl ⟨by rfl, ?_⟩) H0.out ?_
       rotate_left
       ·(intro v hv;obtain ⟨q4,q5,q6⟩:=hv;go_simp <;> with_reducible rfl)
       simp only [List.getElem_toArray,List.getElem_cons_succ,List.getElem_cons_zero,Act.put,List.setIfInBounds_toArray,List.set_cons_zero,List.set_cons_succ]
       refine wpAnyH_take (i:=2) (v:= ?_) rfl (by kernel_rfl) (by kernel_rfl) (by kernel_rfl) (fun _ _ _ h=> h) (Or.inl ⟨by rfl, ?_⟩) H0.out ?_
       rotate_left
       ·(intro v hv;obtain ⟨q4,q5,q6⟩:=hv;go_simp <;> with_reducible rfl)
       simp only [List.getElem_toArray,List.getElem_cons_succ,List.getElem_cons_zero,Act.put,List.setIfInBounds_toArray,List.set_cons_zero,List.set_cons_succ]
       refine wpAnyH_take (i:=3) (v:= ?_) rfl (by kernel_rfl) (by kernel_rfl) (by kernel_rfl) (fun _ _ _ h=> h) (Or.inl ⟨by rfl, ?_⟩) H0.out ?_
       rotate_left
       ·(intro v hv;obtain ⟨q4,q5,q6⟩:=hv;go_simp <;> with_reducible rfl)
       simp only [List.getElem_toArray,List.getElem_cons_succ,List.getElem_cons_zero,Act.put,List.setIfInBounds_toArray,List.set_cons_zero,List.set_cons_succ]
       refine wpAnyH_take (i:=4) (v:= ?_) rfl (by kernel_rfl) (by kernel_rfl) (by kernel_rfl) (fun _ _ _ h=> h) (Or.inl ⟨by rfl, ?_⟩) H0.out ?_
       rotate_left
       ·(intro v hv;obtain ⟨q4,q5,q6⟩:=hv;go_simp <;> with_reducible rfl)
       simp only [List.getElem_toArray,List.getElem_cons_succ,List.getElem_cons_zero,Act.put,List.setIfInBounds_toArray,List.set_cons_zero,List.set_cons_succ]
       refine wpAnyH_take (i:=5) (v:= ?_) rfl (by kernel_rfl) (by kernel_rfl) (by kernel_rfl) (fun _ _ _ h=> h) (Or.inl ⟨by rfl, ?_⟩) H0.out ?_
       rotate_left
       ·(intro v hv;obtain ⟨q4,q5,q6⟩:=hv;go_simp <;> with_reducible rfl)
       simp only [List.getElem_toArray,List.getElem_cons_succ,List.getElem_cons_zero,Act.put,List.setIfInBounds_toArray,List.set_cons_zero,List.set_cons_succ]
       refine wpAnyH_take (i:=7) (v:= ?_) rfl (by kernel_rfl) (by kernel_rfl) (by kernel_rfl) (fun _ _ _ h=> h) (Or.inl ⟨by rfl, ?_⟩) H0.out ?_
       rotate_left
       ·(intro v hv;obtain ⟨q4,q5,q6⟩:=hv;go_simp <;> with_reducible rfl)
       simp only [List.getElem_toArray,List.getElem_cons_succ,List.getElem_cons_zero,Act.put,List.setIfInBounds_toArray,List.set_cons_zero,List.set_cons_succ]
       refine wpAnyH_take (i:=8) (v:= ?_) rfl (by kernel_rfl) (by kernel_rfl) (by kernel_rfl) (fun _ _ _ h=> h) (Or.inl ⟨by rfl, ?_⟩) H0.out ?_
       rotate_left
       ·(intro v hv;obtain ⟨q4,q5,q6⟩:=hv;go_simp <;> with_reducible rfl)
       simp only [List.getElem_toArray,List.getElem_cons_succ,List.getElem_cons_zero,Act.put,List.setIfInBounds_toArray,List.set_cons_zero,List.set_cons_succ]
       refine wpAnyH_take (i:=9) (v:= ?_) rfl (by kernel_rfl) (by kernel_rfl) (by kernel_rfl) (fun _ _ _ h=> h) (Or.inl ⟨by rfl, ?_⟩) H0.out ?_
       rotate_left
       ·(intro v hv;obtain ⟨q4,q5,q6⟩:=hv;go_simp <;> with_reducible rfl)
       simp only [List.getElem_toArray,List.getElem_cons_succ,List.getElem_cons_zero,Act.put,List.setIfInBounds_toArray,List.set_cons_zero,List.set_cons_succ]
       refine wpAnyH_ready (rs:=[6]) (by kernel_rfl) (by simp) ?_
       refine AllReadyH.cons rfl (fun K hK=> ?_) AllReadyH.nil
       rw [if_pos (by rfl)];refine qd9 104 #[.string S] (by first | rfl | kernel_rfl) HNB.out ?_
       rintro x w6 ⟨rfl,BB⟩;have HY:=Qh (HCC.out w6 BB)
       refine ⟨_,rfl, ?_⟩
       refine hK _ _ HY.out (fun _=> ?_)
       clear hK K;simp only [List.getElem_toArray,List.getElem_cons_succ,List.getElem_cons_zero,Act.put,List.setIfInBounds_toArray,List.set_cons_zero,List.set_cons_succ]
       refine wpAnyH_take (i:=10) (v:= .bool false) rfl (by kernel_rfl) (by kernel_rfl) (by kernel_rfl) (fun _ _ _ h=> h) (Or.inl ⟨by rfl, ?_⟩) HY.out ?_
       ·(intro v hv;obtain ⟨q4,q5,q6⟩:=hv;go_simp <;> with_reducible rfl)
       simp only [List.getElem_toArray,List.getElem_cons_succ,List.getElem_cons_zero,Act.put,List.setIfInBounds_toArray,List.set_cons_zero,List.set_cons_succ]
       refine wpAnyH_take (i:=11) (v:= ?_) rfl (by kernel_rfl) (by kernel_rfl) (by kernel_rfl) (fun _ _ _ h=> h) (Or.inl ⟨by rfl, ?_⟩) HY.out ?_
       rotate_left
       ·(intro v hv;obtain ⟨q4,q5,q6⟩:=hv;go_simp <;> with_reducible rfl)
       simp only [List.getElem_toArray,List.getElem_cons_succ,List.getElem_cons_zero,Act.put,List.setIfInBounds_toArray,List.set_cons_zero,List.set_cons_succ]
       refine wpAnyH_take (i:=12) (v:= ?_) rfl (by kernel_rfl) (by kernel_rfl) (by kernel_rfl) (fun _ _ _ h=> h) (Or.inl ⟨by rfl, ?_⟩) HY.out ?_
       rotate_left
       ·(intro v hv;obtain ⟨q4,q5,q6⟩:=hv;go_simp <;> with_reducible rfl)
       simp only [List.getElem_toArray,List.getElem_cons_succ,List.getElem_cons_zero,Act.put,List.setIfInBounds_toArray,List.set_cons_zero,List.set_cons_succ]
       refine wpAnyH_take (i:=13) (v:=undef) rfl (by kernel_rfl) (by kernel_rfl) (by kernel_rfl) (fun _ _ _ h=> h) (Or.inr ⟨by rfl,by rfl⟩) HY.out ?_
       simp only [List.getElem_toArray,List.getElem_cons_succ,List.getElem_cons_zero,Act.put,List.setIfInBounds_toArray,List.set_cons_zero,List.set_cons_succ]
       refine wpAnyH_take (i:=14) (v:=undef) rfl (by kernel_rfl) (by kernel_rfl) (by kernel_rfl) (fun _ _ _ h=> h) (Or.inr ⟨by rfl,by rfl⟩) HY.out ?_
       simp only [List.getElem_toArray,List.getElem_cons_succ,List.getElem_cons_zero,Act.put,List.setIfInBounds_toArray,List.set_cons_zero,List.set_cons_succ]
       refine wpAnyH_take (i:=15) (v:=undef) rfl (by kernel_rfl) (by kernel_rfl) (by kernel_rfl) (fun _ _ _ h=> h) (Or.inr ⟨by rfl,by rfl⟩) HY.out ?_
       simp only [List.getElem_toArray,List.getElem_cons_succ,List.getElem_cons_zero,Act.put,List.setIfInBounds_toArray,List.set_cons_zero,List.set_cons_succ]
       refine wpAnyH_take (i:=16) (v:= ?_) rfl (by kernel_rfl) (by kernel_rfl) (by kernel_rfl) (fun _ _ _ h=> h) (Or.inl ⟨by rfl, ?_⟩) HY.out ?_
       rotate_left
       ·(intro v hv;obtain ⟨q4,q5,q6⟩:=hv;go_simp <;> with_reducible rfl)
       simp only [List.getElem_toArray,List.getElem_cons_succ,List.getElem_cons_zero,Act.put,List.setIfInBounds_toArray,List.set_cons_zero,List.set_cons_succ]
       refine wpAnyH_take (i:=17) (v:= ?_) rfl (by kernel_rfl) (by kernel_rfl) (by kernel_rfl) (fun _ _ _ h=> h) (Or.inl ⟨by rfl, ?_⟩) HY.out ?_
       rotate_left
       ·(intro v hv;obtain ⟨q4,q5,q6⟩:=hv;go_simp <;> with_reducible rfl)
       simp only [List.getElem_toArray,List.getElem_cons_succ,List.getElem_cons_zero,Act.put,List.setIfInBounds_toArray,List.set_cons_zero,List.set_cons_succ]
       refine wpAnyH_done (by kernel_rfl) ?_ _
       have HB2:Hid (Below w.heap.size w _):=Qh (hBB▸HY.out.2.2)
       subst hBB;go_wp2_with fail;go_ret;exact ⟨by rw [HX.out];rfl,HB2⟩
    by_cases k4:k=4
    ·subst k4
     have HK2:Hid (RV=(validF t && decide (n=0))):=HK
     clear HK HN HRV;have HVC:=Qh (HVT.out w1)
     clear HVT;generalize validF t=vt at*;generalize sb t=S at*;cases vt with
     | false=>
      have HX:Hid (RV=false):=Qh HK2.out
      go_wp2_with fail;refine HVC.out.mono ?_
      rintro e w2 ⟨rfl,K2⟩;have HB2:=Qh (HB1.out.trans (K2.mono HB1.out.size))
      clear K2 HVC e0 e1 e2 e3 HB1;go_wp2_with fail;go_ret;exact ⟨by rw [HX.out];rfl,HB2⟩
     | true=>
      by_cases hn:n=0
      ·subst hn
       have HX:Hid (RV=true):=Qh HK2.out
       have e33:=e3
       go_wp2_with fail;refine HVC.out.mono ?_
       rintro e w2 ⟨rfl,K2⟩;have HB2:=Qh (HB1.out.trans (K2.mono HB1.out.size))
       have e4:=(qad K2).cell e33 (fun h=> h)
       clear K2 HVC e0 e1 e2 e3 e33 HB1;go_wp2_with fail;go_ret;exact ⟨by rw [HX.out];rfl,HB2⟩
      ·have hnb:(n==0)=false:=beq_eq_false_iff_ne.2 hn
       have HX:Hid (RV=false):=Qh (by rw [HK2.out,decide_eq_false hn];rfl)
       have e33:=e3
       go_wp2_with fail;refine HVC.out.mono ?_
       rintro e w2 ⟨rfl,K2⟩;have HB2:=Qh (HB1.out.trans (K2.mono HB1.out.size))
       have e4:=(qad K2).cell e33 (fun h=> h)
       clear K2 HVC e0 e1 e2 e3 e33 HB1;go_wp2_with fail;go_ret;exact ⟨by rw [HX.out];rfl,HB2⟩
    by_cases k5:k=5
    ·subst k5
     by_cases ht0:t=[]
     ·subst ht0
      have h1:(sb []).toList=[]:=qab _
      have h2:(sb []).toList.isEmpty=true:=by rw [h1];rfl
      by_cases hn:0≤n
      ·have hnb:decide (0≤n)=true:=decide_eq_true hn
       have HX:Hid (RV=true):=Qh (by rw [HK.out];unfold kindB;rw [if_neg (by decide),if_neg (by decide),if_neg (by decide),if_pos (by decide),decide_eq_true hn];rfl)
       clear HN HVT HK HRV;go_wp2_with fail;go_ret;exact ⟨by rw [HX.out];rfl,HB1⟩
      ·have hnb:decide (0≤n)=false:=decide_eq_false hn
       have HX:Hid (RV=false):=Qh (by rw [HK.out];unfold kindB;rw [if_neg (by decide),if_neg (by decide),if_neg (by decide),if_pos (by decide),decide_eq_false hn];rfl)
       clear HN HVT HK HRV;go_wp2_with fail;go_ret;exact ⟨by rw [HX.out];rfl,HB1⟩
     ·have h1:¬(sb t).toList=[]:=by rw [qab];exact ht0
      have h2:(sb t).toList.isEmpty=false:=by rw [qab];exact List.isEmpty_eq_false_iff.2 ht0
      have h3:((sb t).toList==[])=false:=by rw [qab];exact beq_eq_false_iff_ne.2 ht0
      have HX:Hid (RV=false):=Qh (by rw [HK.out];unfold kindB;rw [if_neg (by decide),if_neg (by decide),if_neg (by decide),if_pos (by decide),List.isEmpty_eq_false_iff.2 ht0,Bool.false_and])
      clear HN HVT HK HRV;generalize sb t=S at*;go_wp2_with fail;go_ret;exact ⟨by rw [HX.out];rfl,HB1⟩
    by_cases k6:k=6
    ·subst k6
     by_cases ht0:t=[]
     ·subst ht0
      have h1:(sb []).toList=[]:=qab _
      have h2:(sb []).toList.isEmpty=true:=by rw [h1];rfl
      by_cases hn:0≤n
      ·have hnb:decide (0≤n)=true:=decide_eq_true hn
       have HX:Hid (RV=true):=Qh (by rw [HK.out];unfold kindB;rw [if_neg (by decide),if_neg (by decide),if_neg (by decide),if_pos (by decide),decide_eq_true hn];rfl)
       clear HN HVT HK HRV;go_wp2_with fail;go_ret;exact ⟨by rw [HX.out];rfl,HB1⟩
      ·have hnb:decide (0≤n)=false:=decide_eq_false hn
       have HX:Hid (RV=false):=Qh (by rw [HK.out];unfold kindB;rw [if_neg (by decide),if_neg (by decide),if_neg (by decide),if_pos (by decide),decide_eq_false hn];rfl)
       clear HN HVT HK HRV;go_wp2_with fail;go_ret;exact ⟨by rw [HX.out];rfl,HB1⟩
     ·have h1:¬(sb t).toList=[]:=by rw [qab];exact ht0
      have h2:(sb t).toList.isEmpty=false:=by rw [qab];exact List.isEmpty_eq_false_iff.2 ht0
      have h3:((sb t).toList==[])=false:=by rw [qab];exact beq_eq_false_iff_ne.2 ht0
      have HX:Hid (RV=false):=Qh (by rw [HK.out];unfold kindB;rw [if_neg (by decide),if_neg (by decide),if_neg (by decide),if_pos (by decide),List.isEmpty_eq_false_iff.2 ht0,Bool.false_and])
      clear HN HVT HK HRV;generalize sb t=S at*;go_wp2_with fail;go_ret;exact ⟨by rw [HX.out];rfl,HB1⟩
    have b0:(k==0)=false:=beq_eq_false_iff_ne.2 k0
    have b1:(k==1)=false:=beq_eq_false_iff_ne.2 k1
    have b2:(k==2)=false:=beq_eq_false_iff_ne.2 k2
    have b3:(k==3)=false:=beq_eq_false_iff_ne.2 k3
    have b4:(k==4)=false:=beq_eq_false_iff_ne.2 k4
    have b5:(k==5)=false:=beq_eq_false_iff_ne.2 k5
    have b6:(k==6)=false:=beq_eq_false_iff_ne.2 k6
    have HX:Hid (RV=false):=Qh (by rw [HK.out];unfold kindB;rw [if_neg (by omega),if_neg k3,if_neg k4,if_neg (by omega)])
    clear HN HVT HK HRV;generalize sb t=S at*;go_wp2_with fail;go_ret;exact ⟨by rw [HX.out];rfl,HB1⟩
   | false=>
    obtain rfl:key=[]:=List.isEmpty_iff.1 hko
    have g1:(sb []).toList=[]:=qab _
    have g2:(sb []).toList.isEmpty=true:=by rw [g1];rfl
    go_enter Tryz.func142,Tryz.ntmps142
    go_wp2_with fail;refine (HVK.out _).mono ?_
    rintro e w1 ⟨rfl,K1⟩;have HB1:=Qh (HB.out.trans (K1.mono HB.out.size))
    have HR1:=Qh (HR0.out.below K1 HR0.out.lt)
    have e0:w1.cell? ⟨w.heap.size,0,none⟩=some (.int .i64 k):=HR1.out.cell rfl
    have e1:w1.cell? ⟨w.heap.size,1,none⟩=some (.string (sb [])):=HR1.out.cell rfl
    have e2:w1.cell? ⟨w.heap.size,2,none⟩=some (.string (sb t)):=HR1.out.cell rfl
    have e3:w1.cell? ⟨w.heap.size,3,none⟩=some (.int .i64 n):=HR1.out.cell rfl
    clear K1 HVK HB HR0 c1;by_cases k0:k=0
    ·subst k0
     by_cases ht0:t=[]
     ·subst ht0
      have h1:(sb []).toList=[]:=qab _
      have h2:(sb []).toList.isEmpty=true:=by rw [h1];rfl
      by_cases hn:n=0
      ·subst hn
       have HX:Hid (RV=true):=Qh HK.out
       clear HN HVT HK HRV;go_wp2_with fail;go_ret;exact ⟨by rw [HX.out];rfl,HB1⟩
      ·have hnb:(n==0)=false:=beq_eq_false_iff_ne.2 hn
       have HX:Hid (RV=false):=Qh (by rw [HK.out];unfold kindB;rw [if_pos (by decide),decide_eq_false hn,Bool.and_false])
       clear HN HVT HK HRV;go_wp2_with fail;go_ret;exact ⟨by rw [HX.out];rfl,HB1⟩
     ·have h1:¬(sb t).toList=[]:=by rw [qab];exact ht0
      have h2:(sb t).toList.isEmpty=false:=by rw [qab];exact List.isEmpty_eq_false_iff.2 ht0
      have h3:((sb t).toList==[])=false:=by rw [qab];exact beq_eq_false_iff_ne.2 ht0
      have HX:Hid (RV=false):=Qh (by rw [HK.out];unfold kindB;rw [if_pos (by decide),List.isEmpty_eq_false_iff.2 ht0,Bool.false_and])
      clear HN HVT HK HRV;generalize sb t=S at*;go_wp2_with fail;go_ret;exact ⟨by rw [HX.out];rfl,HB1⟩
    by_cases k1:k=1
    ·subst k1
     by_cases ht0:t=[]
     ·subst ht0
      have h1:(sb []).toList=[]:=qab _
      have h2:(sb []).toList.isEmpty=true:=by rw [h1];rfl
      by_cases hn:n=0
      ·subst hn
       have HX:Hid (RV=true):=Qh HK.out
       clear HN HVT HK HRV;go_wp2_with fail;go_ret;exact ⟨by rw [HX.out];rfl,HB1⟩
      ·have hnb:(n==0)=false:=beq_eq_false_iff_ne.2 hn
       have HX:Hid (RV=false):=Qh (by rw [HK.out];unfold kindB;rw [if_pos (by decide),decide_eq_false hn,Bool.and_false])
       clear HN HVT HK HRV;go_wp2_with fail;go_ret;exact ⟨by rw [HX.out];rfl,HB1⟩
     ·have h1:¬(sb t).toList=[]:=by rw [qab];exact ht0
      have h2:(sb t).toList.isEmpty=false:=by rw [qab];exact List.isEmpty_eq_false_iff.2 ht0
      have h3:((sb t).toList==[])=false:=by rw [qab];exact beq_eq_false_iff_ne.2 ht0
      have HX:Hid (RV=false):=Qh (by rw [HK.out];unfold kindB;rw [if_pos (by decide),List.isEmpty_eq_false_iff.2 ht0,Bool.false_and])
      clear HN HVT HK HRV;generalize sb t=S at*;go_wp2_with fail;go_ret;exact ⟨by rw [HX.out];rfl,HB1⟩
    by_cases k2:k=2
    ·subst k2
     by_cases ht0:t=[]
     ·subst ht0
      have h1:(sb []).toList=[]:=qab _
      have h2:(sb []).toList.isEmpty=true:=by rw [h1];rfl
      by_cases hn:n=0
      ·subst hn
       have HX:Hid (RV=true):=Qh HK.out
       clear HN HVT HK HRV;go_wp2_with fail;go_ret;exact ⟨by rw [HX.out];rfl,HB1⟩
      ·have hnb:(n==0)=false:=beq_eq_false_iff_ne.2 hn
       have HX:Hid (RV=false):=Qh (by rw [HK.out];unfold kindB;rw [if_pos (by decide),decide_eq_false hn,Bool.and_false])
       clear HN HVT HK HRV;go_wp2_with fail;go_ret;exact ⟨by rw [HX.out];rfl,HB1⟩
     ·have h1:¬(sb t).toList=[]:=by rw [qab];exact ht0
      have h2:(sb t).toList.isEmpty=false:=by rw [qab];exact List.isEmpty_eq_false_iff.2 ht0
      have h3:((sb t).toList==[])=false:=by rw [qab];exact beq_eq_false_iff_ne.2 ht0
      have HX:Hid (RV=false):=Qh (by rw [HK.out];unfold kindB;rw [if_pos (by decide),List.isEmpty_eq_false_iff.2 ht0,Bool.false_and])
      clear HN HVT HK HRV;generalize sb t=S at*;go_wp2_with fail;go_ret;exact ⟨by rw [HX.out];rfl,HB1⟩
    by_cases k3:k=3
    ·subst k3
     by_cases ht0:t=[]
     ·subst ht0
      have h1:(sb []).toList=[]:=qab _
      have h2:(sb []).toList.isEmpty=true:=by rw [h1];rfl
      have HX:Hid (RV=false):=Qh HK.out
      clear HN HVT HK HRV;go_upto_region 10 with fail;go_quiet (fail)
      have HB2:=Qh (qaa HB1.out nq)
      clear e0 e1 e2 e3 HB1;go_wp2_with fail;go_ret;exact ⟨by rw [HX.out];rfl,HB2⟩
     ·have h1:¬(sb t).toList=[]:=by rw [qab];exact ht0
      have h2:(sb t).toList.isEmpty=false:=by rw [qab];exact List.isEmpty_eq_false_iff.2 ht0
      have h3:((sb t).toList==[])=false:=by rw [qab];exact beq_eq_false_iff_ne.2 ht0
      obtain ⟨q,hq0⟩:∃q:Nat,q=numF t:=⟨_,rfl⟩
      obtain ⟨q2,hq2⟩:∃q2:Nat,q2=t.length:=⟨_,rfl⟩
      have HK2:Hid (RV=(decide (q=q2) && decide (n=0))):=Qh (by rw [HK.out,hq0,hq2];unfold kindB;rw [if_neg (by decide),if_pos rfl,List.isEmpty_eq_false_iff.2 ht0];rfl)
      rw [←hq0]at HN
      rw [←hq2]at hsz
      clear hq0 hq2 HK HVT HRV ht ht0;generalize sb t=S at*;by_cases hqq:q=q2
      ·subst hqq
       have hqb:((q:Int)==(q:Int))=true:=beq_self_eq_true _
       by_cases hn:n=0
       ·subst hn
        have HX:Hid (RV=true):=Qh (by rw [HK2.out];simp)
        clear HK2;have HCC:=Qh (fun W (k:Below (w1.drewN 1).heap.size (w1.drewN 1) W)=> show W.cell? ⟨w.heap.size,2,none⟩=some (.string S)∧W.cell? ⟨w.heap.size,3,none⟩=some (.int .i64 0)∧Below w.heap.size w W from ⟨(qad (below_undrew' k)).cell e2 (fun h=> h),(qad (below_undrew' k)).cell e3 (fun h=> h),HB1.out.trans ((below_undrew' k).mono HB1.out.size)⟩)
        have HNB:Hid (Calls Tryz.prog 104 #[.string S] (w1.drewN 1) fun e w'=> e= .returned (.int .i64 (q:Int))∧Below (w1.drewN 1).heap.size (w1.drewN 1) w'):=Qh ((HN.out (w1.drewN 1)).mono (fun e w2 h=> ⟨h.1,by rw [h.2];exact Below.refl _ _⟩))
        go_upto_region 10 with fail;generalize hBB:w.heap.size=B at*;go_region_held3 (fun x=> x.cell? ⟨B,2,none⟩=some (.string S)∧x.cell? ⟨B,3,none⟩=some (.int .i64 0)∧Below B w x) (first | exact ⟨e2,e3,qaa HB1.out 1⟩ | exact HY.out) (first | (go_at_call 104;refine HNB.out.mono ?_;rintro e w6 ⟨rfl,BB⟩;have HY:=Qh (HCC.out w6 BB)))
        have HB2:Hid (Below w.heap.size w _):=Qh (hBB▸HY.out.2.2)
        subst hBB;clear e0 e1 e2 e3 HB1 HN;go_wp2_with fail;go_ret;exact ⟨by rw [HX.out];rfl,HB2⟩
       ·have hnb:(n==0)=false:=beq_eq_false_iff_ne.2 hn
        have HX:Hid (RV=false):=Qh (by rw [HK2.out];simp [hn])
        clear HK2;have HCC:=Qh (fun W (k:Below (w1.drewN 1).heap.size (w1.drewN 1) W)=> show W.cell? ⟨w.heap.size,2,none⟩=some (.string S)∧W.cell? ⟨w.heap.size,3,none⟩=some (.int .i64 n)∧Below w.heap.size w W from ⟨(qad (below_undrew' k)).cell e2 (fun h=> h),(qad (below_undrew' k)).cell e3 (fun h=> h),HB1.out.trans ((below_undrew' k).mono HB1.out.size)⟩)
        have HNB:Hid (Calls Tryz.prog 104 #[.string S] (w1.drewN 1) fun e w'=> e= .returned (.int .i64 (q:Int))∧Below (w1.drewN 1).heap.size (w1.drewN 1) w'):=Qh ((HN.out (w1.drewN 1)).mono (fun e w2 h=> ⟨h.1,by rw [h.2];exact Below.refl _ _⟩))
        go_upto_region 10 with fail;generalize hBB:w.heap.size=B at*;go_region_held3 (fun x=> x.cell? ⟨B,2,none⟩=some (.string S)∧x.cell? ⟨B,3,none⟩=some (.int .i64 n)∧Below B w x) (first | exact ⟨e2,e3,qaa HB1.out 1⟩ | exact HY.out) (first | (go_at_call 104;refine HNB.out.mono ?_;rintro e w6 ⟨rfl,BB⟩;have HY:=Qh (HCC.out w6 BB)))
        have HB2:Hid (Below w.heap.size w _):=Qh (hBB▸HY.out.2.2)
        subst hBB;clear e0 e1 e2 e3 HB1 HN;go_wp2_with fail;go_ret;exact ⟨by rw [HX.out];rfl,HB2⟩
      ·have hqb:((q:Int)==(q2:Int))=false:=beq_eq_false_iff_ne.2 (by omega)
       have HX:Hid (RV=false):=Qh (by rw [HK2.out];simp [hqq])
       clear HK2;have HCC:=Qh (fun W (k:Below (w1.drewN 1).heap.size (w1.drewN 1) W)=> show W.cell? ⟨w.heap.size,2,none⟩=some (.string S)∧W.cell? ⟨w.heap.size,3,none⟩=some (.int .i64 n)∧Below w.heap.size w W from ⟨(qad (below_undrew' k)).cell e2 (fun h=> h),(qad (below_undrew' k)).cell e3 (fun h=> h),HB1.out.trans ((below_undrew' k).mono HB1.out.size)⟩)
       have HNB:Hid (Calls Tryz.prog 104 #[.string S] (w1.drewN 1) fun e w'=> e= .returned (.int .i64 (q:Int))∧Below (w1.drewN 1).heap.size (w1.drewN 1) w'):=Qh ((HN.out (w1.drewN 1)).mono (fun e w2 h=> ⟨h.1,by rw [h.2];exact Below.refl _ _⟩))
       go_upto_region 10 with fail;generalize hBB:w.heap.size=B at*;refine wp_region_held (S:=fun x=> x.cell? ⟨B,2,none⟩=some (.string S)∧x.cell? ⟨B,3,none⟩=some (.int .i64 n)∧Below B w x) (by kernel_rfl) ?_
       change wpAnyH _ _ _ _ _ _ _ _ (w1.drewN 1)
       have H0:Hid ((w1.drewN 1).cell? ⟨B,2,none⟩=some (.string S)∧(w1.drewN 1).cell? ⟨B,3,none⟩=some (.int .i64 n)∧Below B w (w1.drewN 1)):=Qh ⟨e2,e3,qaa HB1.out 1⟩
       generalize w1.drewN 1=w4 at*;refine wpAnyH_take (i:=0) (v:= ?_) rfl (by kernel_rfl) (by kernel_rfl) (by kernel_rfl) (fun _ _ _ h=> h) (Or.inl ⟨by rfl, ?_⟩) H0.out ?_
       rotate_left
       ·(intro v hv;obtain ⟨q4,q5,q6⟩:=hv;go_simp <;> with_reducible rfl)
       simp only [List.getElem_toArray,List.getElem_cons_zero,Act.put,List.setIfInBounds_toArray,List.set_cons_zero,List.set_cons_succ]
       refine wpAnyH_take (i:=1) (v:= ?_) rfl (by kernel_rfl) (by kernel_rfl) (by kernel_rfl) (fun _ _ _ h=> h) (Or.inl ⟨by rfl, ?_⟩) H0.out ?_
       rotate_left
       ·(intro v hv;obtain ⟨q4,q5,q6⟩:=hv;go_simp <;> with_reducible rfl)
       simp only [List.getElem_toArray,List.getElem_cons_succ,List.getElem_cons_zero,Act.put,List.setIfInBounds_toArray,List.set_cons_zero,List.set_cons_succ]
       refine wpAnyH_take (i:=2) (v:= ?_) rfl (by kernel_rfl) (by kernel_rfl) (by kernel_rfl) (fun _ _ _ h=> h) (Or.inl ⟨by rfl, ?_⟩) H0.out ?_
       rotate_left
       ·(intro v hv;obtain ⟨q4,q5,q6⟩:=hv;go_simp <;> with_reducible rfl)
       simp only [List.getElem_toArray,List.getElem_cons_succ,List.getElem_cons_zero,Act.put,List.setIfInBounds_toArray,List.set_cons_zero,List.set_cons_succ]
       refine wpAnyH_take (i:=3) (v:= ?_) rfl (by kernel_rfl) (by kernel_rfl) (by kernel_rfl) (fun _ _ _ h=> h) (Or.inl ⟨by rfl, ?_⟩) H0.out ?_
       rotate_left
       ·(intro v hv;obtain ⟨q4,q5,q6⟩:=hv;go_simp <;> with_reducible rfl)
       simp only [List.getElem_toArray,List.getElem_cons_succ,List.getElem_cons_zero,Act.put,List.setIfInBounds_toArray,List.set_cons_zero,List.set_cons_succ]
       refine wpAnyH_take (i:=4) (v:= ?_) rfl (by kernel_rfl) (by kernel_rfl) (by kernel_rfl) (fun _ _ _ h=> h) (Or.inl ⟨by rfl, ?_⟩) H0.out ?_
       rotate_left
       ·(intro v hv;obtain ⟨q4,q5,q6⟩:=hv;go_simp <;> with_reducible rfl)
       simp only [List.getElem_toArray,List.getElem_cons_succ,List.getElem_cons_zero,Act.put,List.setIfInBounds_toArray,List.set_cons_zero,List.set_cons_succ]
       refine wpAnyH_take (i:=5) (v:= ?_) rfl (by kernel_rfl) (by kernel_rfl) (by kernel_rfl) (fun _ _ _ h=> h) (Or.inl ⟨by rfl, ?_⟩) H0.out ?_
       rotate_left
       ·(intro v hv;obtain ⟨q4,q5,q6⟩:=hv;go_simp <;> with_reducible rfl)
       simp only [List.getElem_toArray,List.getElem_cons_succ,List.getElem_cons_zero,Act.put,List.setIfInBounds_toArray,List.set_cons_zero,List.set_cons_succ]
       refine wpAnyH_take (i:=7) (v:= ?_) rfl (by kernel_rfl) (by kernel_rfl) (by kernel_rfl) (fun _ _ _ h=> h) (Or.inl ⟨by rfl, ?_⟩) H0.out ?_
       rotate_left
       ·(intro v hv;obtain ⟨q4,q5,q6⟩:=hv;go_simp <;> with_reducible rfl)
       simp only [List.getElem_toArray,List.getElem_cons_succ,List.getElem_cons_zero,Act.put,List.setIfInBounds_toArray,List.set_cons_zero,List.set_cons_succ]
       refine wpAnyH_take (i:=8) (v:= ?_) rfl (by kernel_rfl) (by kernel_rfl) (by kernel_rfl) (fun _ _ _ h=> h) (Or.inl ⟨by rfl, ?_⟩) H0.out ?_
       rotate_left
       ·(intro v hv;obtain ⟨q4,q5,q6⟩:=hv;go_simp <;> with_reducible rfl)
       simp only [List.getElem_toArray,List.getElem_cons_succ,List.getElem_cons_zero,Act.put,List.setIfInBounds_toArray,List.set_cons_zero,List.set_cons_succ]
       refine wpAnyH_take (i:=9) (v:= ?_) rfl (by kernel_rfl) (by kernel_rfl) (by kernel_rfl) (fun _ _ _ h=> h) (Or.inl ⟨by rfl, ?_⟩) H0.out ?_
       rotate_left
       ·(intro v hv;obtain ⟨q4,q5,q6⟩:=hv;go_simp <;> with_reducible rfl)
       simp only [List.getElem_toArray,List.getElem_cons_succ,List.getElem_cons_zero,Act.put,List.setIfInBounds_toArray,List.set_cons_zero,List.set_cons_succ]
       refine wpAnyH_ready (rs:=[6]) (by kernel_rfl) (by simp) ?_
       refine AllReadyH.cons rfl (fun K hK=> ?_) AllReadyH.nil
       rw [if_pos (by rfl)];refine qd9 104 #[.string S] (by first | rfl | kernel_rfl) HNB.out ?_
       rintro x w6 ⟨rfl,BB⟩;have HY:=Qh (HCC.out w6 BB)
       refine ⟨_,rfl, ?_⟩
       refine hK _ _ HY.out (fun _=> ?_)
       clear hK K;simp only [List.getElem_toArray,List.getElem_cons_succ,List.getElem_cons_zero,Act.put,List.setIfInBounds_toArray,List.set_cons_zero,List.set_cons_succ]
       refine wpAnyH_take (i:=10) (v:= .bool false) rfl (by kernel_rfl) (by kernel_rfl) (by kernel_rfl) (fun _ _ _ h=> h) (Or.inl ⟨by rfl, ?_⟩) HY.out ?_
       ·(intro v hv;obtain ⟨q4,q5,q6⟩:=hv;go_simp <;> with_reducible rfl)
       simp only [List.getElem_toArray,List.getElem_cons_succ,List.getElem_cons_zero,Act.put,List.setIfInBounds_toArray,List.set_cons_zero,List.set_cons_succ]
       refine wpAnyH_take (i:=11) (v:= ?_) rfl (by kernel_rfl) (by kernel_rfl) (by kernel_rfl) (fun _ _ _ h=> h) (Or.inl ⟨by rfl, ?_⟩) HY.out ?_
       rotate_left
       ·(intro v hv;obtain ⟨q4,q5,q6⟩:=hv;go_simp <;> with_reducible rfl)
       simp only [List.getElem_toArray,List.getElem_cons_succ,List.getElem_cons_zero,Act.put,List.setIfInBounds_toArray,List.set_cons_zero,List.set_cons_succ]
       refine wpAnyH_take (i:=12) (v:= ?_) rfl (by kernel_rfl) (by kernel_rfl) (by kernel_rfl) (fun _ _ _ h=> h) (Or.inl ⟨by rfl, ?_⟩) HY.out ?_
       rotate_left
       ·(intro v hv;obtain ⟨q4,q5,q6⟩:=hv;go_simp <;> with_reducible rfl)
       simp only [List.getElem_toArray,List.getElem_cons_succ,List.getElem_cons_zero,Act.put,List.setIfInBounds_toArray,List.set_cons_zero,List.set_cons_succ]
       refine wpAnyH_take (i:=13) (v:=undef) rfl (by kernel_rfl) (by kernel_rfl) (by kernel_rfl) (fun _ _ _ h=> h) (Or.inr ⟨by rfl,by rfl⟩) HY.out ?_
       simp only [List.getElem_toArray,List.getElem_cons_succ,List.getElem_cons_zero,Act.put,List.setIfInBounds_toArray,List.set_cons_zero,List.set_cons_succ]
       refine wpAnyH_take (i:=14) (v:=undef) rfl (by kernel_rfl) (by kernel_rfl) (by kernel_rfl) (fun _ _ _ h=> h) (Or.inr ⟨by rfl,by rfl⟩) HY.out ?_
       simp only [List.getElem_toArray,List.getElem_cons_succ,List.getElem_cons_zero,Act.put,List.setIfInBounds_toArray,List.set_cons_zero,List.set_cons_succ]
       refine wpAnyH_take (i:=15) (v:=undef) rfl (by kernel_rfl) (by kernel_rfl) (by kernel_rfl) (fun _ _ _ h=> h) (Or.inr ⟨by rfl,by rfl⟩) HY.out ?_
       simp only [List.getElem_toArray,List.getElem_cons_succ,List.getElem_cons_zero,Act.put,List.setIfInBounds_toArray,List.set_cons_zero,List.set_cons_succ]
       refine wpAnyH_take (i:=16) (v:= ?_) rfl (by kernel_rfl) (by kernel_rfl) (by kernel_rfl) (fun _ _ _ h=> h) (Or.inl ⟨by rfl, ?_⟩) HY.out ?_
       rotate_left
       ·(intro v hv;obtain ⟨q4,q5,q6⟩:=hv;go_simp <;> with_reducible rfl)
       simp only [List.getElem_toArray,List.getElem_cons_succ,List.getElem_cons_zero,Act.put,List.setIfInBounds_toArray,List.set_cons_zero,List.set_cons_succ]
       refine wpAnyH_take (i:=17) (v:= ?_) rfl (by kernel_rfl) (by kernel_rfl) (by kernel_rfl) (fun _ _ _ h=> h) (Or.inl ⟨by rfl, ?_⟩) HY.out ?_
       rotate_left
       ·(intro v hv;obtain ⟨q4,q5,q6⟩:=hv;go_simp <;> with_reducible rfl)
       simp only [List.getElem_toArray,List.getElem_cons_succ,List.getElem_cons_zero,Act.put,List.setIfInBounds_toArray,List.set_cons_zero,List.set_cons_succ]
       refine wpAnyH_done (by kernel_rfl) ?_ _
       have HB2:Hid (Below w.heap.size w _):=Qh (hBB▸HY.out.2.2)
       subst hBB;go_wp2_with fail;go_ret;exact ⟨by rw [HX.out];rfl,HB2⟩
    by_cases k4:k=4
    ·subst k4
     have HK2:Hid (RV=(validF t && decide (n=0))):=HK
     clear HK HN HRV;have HVC:=Qh (HVT.out w1)
     clear HVT;generalize validF t=vt at*;generalize sb t=S at*;cases vt with
     | false=>
      have HX:Hid (RV=false):=Qh HK2.out
      go_wp2_with fail;refine HVC.out.mono ?_
      rintro e w2 ⟨rfl,K2⟩;have HB2:=Qh (HB1.out.trans (K2.mono HB1.out.size))
      clear K2 HVC e0 e1 e2 e3 HB1;go_wp2_with fail;go_ret;exact ⟨by rw [HX.out];rfl,HB2⟩
     | true=>
      by_cases hn:n=0
      ·subst hn
       have HX:Hid (RV=true):=Qh HK2.out
       have e33:=e3
       go_wp2_with fail;refine HVC.out.mono ?_
       rintro e w2 ⟨rfl,K2⟩;have HB2:=Qh (HB1.out.trans (K2.mono HB1.out.size))
       have e4:=(qad K2).cell e33 (fun h=> h)
       clear K2 HVC e0 e1 e2 e3 e33 HB1;go_wp2_with fail;go_ret;exact ⟨by rw [HX.out];rfl,HB2⟩
      ·have hnb:(n==0)=false:=beq_eq_false_iff_ne.2 hn
       have HX:Hid (RV=false):=Qh (by rw [HK2.out,decide_eq_false hn];rfl)
       have e33:=e3
       go_wp2_with fail;refine HVC.out.mono ?_
       rintro e w2 ⟨rfl,K2⟩;have HB2:=Qh (HB1.out.trans (K2.mono HB1.out.size))
       have e4:=(qad K2).cell e33 (fun h=> h)
       clear K2 HVC e0 e1 e2 e3 e33 HB1;go_wp2_with fail;go_ret;exact ⟨by rw [HX.out];rfl,HB2⟩
    by_cases k5:k=5
    ·subst k5
     by_cases ht0:t=[]
     ·subst ht0
      have h1:(sb []).toList=[]:=qab _
      have h2:(sb []).toList.isEmpty=true:=by rw [h1];rfl
      by_cases hn:0≤n
      ·have hnb:decide (0≤n)=true:=decide_eq_true hn
       have HX:Hid (RV=true):=Qh (by rw [HK.out];unfold kindB;rw [if_neg (by decide),if_neg (by decide),if_neg (by decide),if_pos (by decide),decide_eq_true hn];rfl)
       clear HN HVT HK HRV;go_wp2_with fail;go_ret;exact ⟨by rw [HX.out];rfl,HB1⟩
      ·have hnb:decide (0≤n)=false:=decide_eq_false hn
       have HX:Hid (RV=false):=Qh (by rw [HK.out];unfold kindB;rw [if_neg (by decide),if_neg (by decide),if_neg (by decide),if_pos (by decide),decide_eq_false hn];rfl)
       clear HN HVT HK HRV;go_wp2_with fail;go_ret;exact ⟨by rw [HX.out];rfl,HB1⟩
     ·have h1:¬(sb t).toList=[]:=by rw [qab];exact ht0
      have h2:(sb t).toList.isEmpty=false:=by rw [qab];exact List.isEmpty_eq_false_iff.2 ht0
      have h3:((sb t).toList==[])=false:=by rw [qab];exact beq_eq_false_iff_ne.2 ht0
      have HX:Hid (RV=false):=Qh (by rw [HK.out];unfold kindB;rw [if_neg (by decide),if_neg (by decide),if_neg (by decide),if_pos (by decide),List.isEmpty_eq_false_iff.2 ht0,Bool.false_and])
      clear HN HVT HK HRV;generalize sb t=S at*;go_wp2_with fail;go_ret;exact ⟨by rw [HX.out];rfl,HB1⟩
    by_cases k6:k=6
    ·subst k6
     by_cases ht0:t=[]
     ·subst ht0
      have h1:(sb []).toList=[]:=qab _
      have h2:(sb []).toList.isEmpty=true:=by rw [h1];rfl
      by_cases hn:0≤n
      ·have hnb:decide (0≤n)=true:=decide_eq_true hn
       have HX:Hid (RV=true):=Qh (by rw [HK.out];unfold kindB;rw [if_neg (by decide),if_neg (by decide),if_neg (by decide),if_pos (by decide),decide_eq_true hn];rfl)
       clear HN HVT HK HRV;go_wp2_with fail;go_ret;exact ⟨by rw [HX.out];rfl,HB1⟩
      ·have hnb:decide (0≤n)=false:=decide_eq_false hn
       have HX:Hid (RV=false):=Qh (by rw [HK.out];unfold kindB;rw [if_neg (by decide),if_neg (by decide),if_neg (by decide),if_pos (by decide),decide_eq_false hn];rfl)
       clear HN HVT HK HRV;go_wp2_with fail;go_ret;exact ⟨by rw [HX.out];rfl,HB1⟩
     ·have h1:¬(sb t).toList=[]:=by rw [qab];exact ht0
      have h2:(sb t).toList.isEmpty=false:=by rw [qab];exact List.isEmpty_eq_false_iff.2 ht0
      have h3:((sb t).toList==[])=false:=by rw [qab];exact beq_eq_false_iff_ne.2 ht0
      have HX:Hid (RV=false):=Qh (by rw [HK.out];unfold kindB;rw [if_neg (by decide),if_neg (by decide),if_neg (by decide),if_pos (by decide),List.isEmpty_eq_false_iff.2 ht0,Bool.false_and])
      clear HN HVT HK HRV;generalize sb t=S at*;go_wp2_with fail;go_ret;exact ⟨by rw [HX.out];rfl,HB1⟩
    have b0:(k==0)=false:=beq_eq_false_iff_ne.2 k0
    have b1:(k==1)=false:=beq_eq_false_iff_ne.2 k1
    have b2:(k==2)=false:=beq_eq_false_iff_ne.2 k2
    have b3:(k==3)=false:=beq_eq_false_iff_ne.2 k3
    have b4:(k==4)=false:=beq_eq_false_iff_ne.2 k4
    have b5:(k==5)=false:=beq_eq_false_iff_ne.2 k5
    have b6:(k==6)=false:=beq_eq_false_iff_ne.2 k6
    have HX:Hid (RV=false):=Qh (by rw [HK.out];unfold kindB;rw [if_neg (by omega),if_neg k3,if_neg k4,if_neg (by omega)])
    clear HN HVT HK HRV;generalize sb t=S at*;go_wp2_with fail;go_ret;exact ⟨by rw [HX.out];rfl,HB1⟩
 ·have HX:Hid (RV=false):=Qh (by rw [HRV.out,Bool.eq_false_iff.2 hko];rfl)
  cases o with
  | true=> exact absurd rfl hko
  | false=>
   have hk0:¬key=[]:=fun h=> hko (List.isEmpty_iff.2 h)
   have g1:¬(sb key).toList=[]:=by rw [qab];exact hk0
   have g2:(sb key).toList.isEmpty=false:=by rw [qab];exact List.isEmpty_eq_false_iff.2 hk0
   have g3:((sb key).toList !=[])=true:=by rw [qab];exact bne_iff_ne.2 hk0
   clear hko HRV HN HVT;generalize validF key=vk at*;go_enter Tryz.func142,Tryz.ntmps142
   go_wp2_with fail;refine (HVK.out _).mono ?_
   rintro e w1 ⟨rfl,K1⟩;have HB1:=Qh (HB.out.trans (K1.mono HB.out.size))
   have HR1:=Qh (HR0.out.below K1 HR0.out.lt)
   have e0:w1.cell? ⟨w.heap.size,0,none⟩=some (.int .i64 k):=HR1.out.cell rfl
   have e1:w1.cell? ⟨w.heap.size,1,none⟩=some (.string (sb key)):=HR1.out.cell rfl
   have e2:w1.cell? ⟨w.heap.size,2,none⟩=some (.string (sb t)):=HR1.out.cell rfl
   have e3:w1.cell? ⟨w.heap.size,3,none⟩=some (.int .i64 n):=HR1.out.cell rfl
   clear K1 HVK HB HR0 c1;generalize sb key=KK at*;go_wp2_with fail;go_ret;exact ⟨by rw [HX.out];rfl,HB1⟩
end Go.Proofs.YtgmangikcfakgaaGreatDoor
