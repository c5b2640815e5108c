import Derived.Test.YtmkjcleecjjchaaGreatDoorP38
import Derived.Test.YtmkjcleecjjchaaGreatDoorP25
import Derived.Deep.RegionLaw
import Derived.Test.YtmkjcleecjjchaaGreatDoorP14
namespace Go.Proofs.YtmkjcleecjjchaaGreatDoor
open Go.RowKit Sh Jt Js Jo
theorem step_append_valsM {w:World} {ops:Array Oper} {o:Oper} {a:Act} {K:Act→World→Prop} {Q:Exit→Act→World→Prop} {E:Prop} (hg:o.guard=none) (s x:Operand)
  (ho:o.op= .call {callee:= .builtin .append,args:=#[s,x],argTypes:=#[29,29]}) (B:Nat) (v:Value) (L:List V) (hs:a.eval s=v) (hown:OwnVals w B v L)
  (ad:Addr) (n c:Nat) (M:List V) (hx:a.eval x= .slice (some ad) n c) (hsrc:ValsAt w (some ad) n c M) (hb:L.length+n≤1000000000000) (hB:B≤w.heap.size)
  (h:∀v' w',Hid (OwnVals w' B v' (L++M))→Hid (Kept w w' (fun k=> B≤k∧v.ownBlock=some k))→Hid (∀k,v'.ownBlock=some k→v.ownBlock=some k∨w.heap.size≤k)→K (a.put o.dst v') w'):
  if Region.wanted o (yielded ops a.tmps)=true then Oper.wp Tryz.prog o a w K Q else E:=by
 rw [if_pos (by simp [Region.wanted,hg])]
 obtain ⟨i,hi,hz,hsz,hby⟩:=js_infoZ
 have hlen:=hsrc.len
 have hnews:∀j u,(cellsV M)[j]? =some u→w.cell? (ad.add j)=some u:=by
  intro j u hj
  have hjl:=(List.getElem?_eq_some_iff.1 hj).1
  rw [cellsV_len]at hjl
  obtain ⟨b,off,e,_,hr⟩:=hsrc.at_ (by omega)
  simp only [Option.some.injEq]at e
  subst e
  rw [Addr.add_mid]
  exact hr j u hj
 obtain ⟨v',w',hr,h2,h3,h4,h5⟩:=run_append_own_at (P:=Tryz.prog) w B 29 o.type 61 i (.agg #[.int .i64 0, .string ⟨#[]⟩, .string ⟨#[]⟩, .int .i64 0]) 4 48 Tryz.underlying29 hi hz hsz hby rfl (by decide) v L.length (cellsV L) hown ad n c (cellsV M)
  (by rw [cellsV_len,hlen]) hnews (cellsV_one M) (by unfold maxLen;omega) (by omega) hB
 unfold Oper.wp execOp
 simp only [ho,resolve,invoke,builtin,Sem.run_bind,Sem.run_pure,Result.andThen_ok,List.map_toArray,List.map_cons,List.map_nil,hs,hx,hr]
 refine h v' w' ?_ ?_ ?_
 ·show w'.ownsRow B _ 4 v' (L++M).length (cellsV (L++M))
  rw [List.length_append,hlen,cellsV_app]
  exact h2
 ·refine ⟨h3.os,h3.tape,h3.output,h3.size,fun k hk hn=> h3.block k hk (fun e=> hn ?_)⟩
  obtain ⟨_,⟨rfl,_⟩ | ⟨g,cap,cur,rfl,hg,_⟩⟩:=hown
  ·cases e
  ·have e':g=k:=by simpa [Value.ownBlock] using e.symm
   subst e'
   exact ⟨hg,rfl⟩
 ·intro k hk
  rcases h5 with h5 | h5
  ·exact .inl (h5▸hk)
  ·rw [h5]at hk
   exact .inr (Nat.le_of_eq (Option.some.inj hk))
theorem step_callM {w:World} {ops:Array Oper} {o:Oper} {a:Act} {K:Act→World→Prop} {Q:Exit→Act→World→Prop} {E:Prop} (hg:o.guard=none) (f:FuncId) (args:Array Value) (hrun:(execOp a.eval o).run Tryz.prog w= .ok (.enter f args) w) {R:Ending→World→Prop}
  (hc:Calls Tryz.prog f args w R) (h:∀e w',R e w'→∃v,e= .returned v∧K (a.put o.dst v) w'):if Region.wanted o (yielded ops a.tmps)=true then Oper.wp Tryz.prog o a w K Q else E:=by
 rw [if_pos (by simp [Region.wanted,hg])]
 exact js_enterP f args hrun hc h
namespace Jo
def madeF (kind:Int) (ks:List (List UInt8)) (P:List (List V)):List V:=if P.all rightPF=true then fineF (⟨kind,[],[],P.length⟩::(List.zipWith named ks P).flatten) else []
def zipN (ks:List (List UInt8)) (Q:List Pc) (j:Nat):List V:=(List.zipWith named (ks.take j) (rowsOf (Q.take j))).flatten
theorem rowsOf_len (Q:List Pc):(rowsOf Q).length=Q.length:=List.length_map _
theorem zipN_len {ks:List (List UInt8)} {Q:List Pc} (h:ks.length=Q.length) (j:Nat):(zipN ks Q j).length=(rowsOf (Q.take j)).flatten.length:=by
 unfold zipN
 rw [zip_flat (by rw [rowsOf_len,List.length_take,List.length_take,h])]
theorem zipN_next {ks:List (List UInt8)} {Q:List Pc} (h:ks.length=Q.length) {j:Nat} (hj:j < Q.length):zipN ks Q (j+1)=zipN ks Q j++named (ks[j]'(by omega)) Q[j].row:=by
 unfold zipN
 have e1:(ks.take (j+1))=ks.take j++[ks[j]'(by omega)]:=List.take_succ_eq_append_getElem (by omega)
 have e2:(rowsOf (Q.take (j+1)))=rowsOf (Q.take j)++[Q[j].row]:=by
  unfold rowsOf
  rw [List.take_succ_eq_append_getElem hj,List.map_append]
  rfl
 rw [e1,e2,List.zipWith_append (by rw [rowsOf_len,List.length_take,List.length_take,h]),List.flatten_append]
 simp
theorem zipN_all {ks:List (List UInt8)} {Q:List Pc} {n:Nat} (h:ks.length=n) (h2:Q.length=n):zipN ks Q n=(List.zipWith named ks (rowsOf Q)).flatten:=by
 unfold zipN
 rw [List.take_of_length_le (by omega),List.take_of_length_le (by omega)]
theorem made_obj (ks:List (List UInt8)) (P:List (List V)) (h:ks.length=P.length):madeF 6 ks P=objA ks P:=by
 unfold madeF objA objF
 by_cases hp:P.all rightPF=true
 ·rw [if_pos hp,if_pos ⟨hp,h⟩]
 ·rw [if_neg hp,if_neg (fun e=> hp e.1)]
theorem zip_none:∀(P:List (List V)),(∀p∈P,Js.keyOf p=[])→List.zipWith named (List.replicate P.length []) P=P
 | [],_=> rfl
 | p::P,h=> by
  rw [List.length_cons,List.replicate_succ,List.zipWith_cons_cons,named_self (h p List.mem_cons_self),zip_none P (fun q hq=> h q (List.mem_cons_of_mem _ hq))]
theorem made_list (P:List (List V)):madeF 5 (List.replicate P.length []) P=listA P:=by
 unfold madeF listA listF
 by_cases hp:P.all rightPF=true
 ·rw [if_pos hp,if_pos hp,zip_none P (keys_none hp)]
 ·rw [if_neg hp,if_neg hp]
theorem zip_short {m:Nat} {kind c:Int} {ks:List (List UInt8)} {P:List (List V)} (hP:∀p∈P,Short m p) (hk:∀k∈ks,k.length≤m):Short m (⟨kind,[],[],c⟩::(List.zipWith named ks P).flatten):=by
 intro v hv
 rcases List.mem_cons.1 hv with rfl | hv
 ·exact ⟨Nat.zero_le _,Nat.zero_le _⟩
 ·obtain ⟨q,hq,hvq⟩:=List.mem_flatten.1 hv
  obtain ⟨i,hi,rfl⟩:=List.getElem_of_mem hq
  rw [List.getElem_zipWith]at hvq
  exact short_named (hP _ (List.getElem_mem _)) (hk _ (List.getElem_mem _)) v hvq
end Jo
theorem make_strs (m:Nat) (hm:m≤250000) (W:World):(Instr.makeSlice 50 (.int .i64 (m:Int)) (.int .i64 (m:Int))).run Tryz.prog W= .ok (.slice (some ⟨W.heap.size,0,none⟩) m m) (W.alloc (.cells (List.replicate m (.string ⟨#[]⟩)).toArray 9)):=by
 obtain ⟨i,hi,hz,hs,hb⟩:=jo_infoStr
 have:=run_make W 50 9 i (.string ⟨#[]⟩) Tryz.underlying50 hi hz .i64 .i64 (m:Int) (m:Int) (by omega) (by omega) (by rw [hb];omega) (by omega)
 rw [hs,Int.toNat_natCast,made_one _ rfl]at this
 exact this
theorem StrsAt.made (w:World) (n:Nat):StrsAt (w.alloc (.cells (List.replicate n (.string ⟨#[]⟩)).toArray 9)) (some ⟨w.heap.size,0,none⟩) n n (List.replicate n []):=by
 have r:=Row.new w 9 (List.replicate n (.string ⟨#[]⟩))
 refine ⟨List.length_replicate,Nat.le_refl _,fun _=> ⟨_,0,rfl,r.lt,r.range 0 _ (fun j v hj=> ?_)⟩⟩
 rw [List.map_replicate]at hj
 rw [Nat.zero_add]
 exact hj
set_option maxRecDepth 100000 in
set_option maxHeartbeats 8000000 in
theorem jo_rmade (w:World) (kind:Int) (A:Option Addr) (n c:Nat) (ks:List (List UInt8)) (hK:StrsAt w A n c ks) (hk:∀k∈ks,k.length≤1000000000) (A2:Option Addr) (c2:Nat) (Q:List Pc) (hQ:SlsAt w A2 n c2 Q) (hn:n≤4000) (hs:∀p∈Q,Short 1000000000 p.row) (hl:(rowsOf Q).flatten.length≤4000):
  Calls Tryz.prog 117 #[.int .i64 kind, .slice A n c, .slice A2 n c2] w fun e w'=> ∃v',e= .returned v'∧Hid (OwnVals w' w.heap.size v' (madeF kind ks (rowsOf Q))∧Below w.heap.size w w'):=by
 have hlen:=hQ.len
 have hklen:=hK.len
 have HQ:=Lib.hid hQ
 have HK:=Lib.hid hK
 have hkq:ks.length=Q.length:=by rw [hlen,hklen]
 have HLE:=Lib.hid (fun j=> Nat.le_trans (rows_le Q j) hl)
 obtain ⟨RV,hRV⟩:∃RV,RV=madeF kind ks (rowsOf Q):=⟨_,rfl⟩
 rw [←hRV]
 have HRV:=Lib.hid (show RV=if (rowsOf (Q.drop 0)).all rightPF=true then fineF (⟨kind,[],[],n⟩::zipN ks Q n) else []from by rw [hRV,zipN_all hklen hlen,List.drop_zero];unfold madeF;rw [rowsOf_len,hlen])
 have HLS:=Lib.hid (show Short 1000000000 (⟨kind,[],[],n⟩::zipN ks Q n)from by
  rw [zipN_all hklen hlen]
  exact zip_short (fun p hp=> by
   obtain ⟨q,hq,rfl⟩:=List.mem_map.1 hp
   exact hs q hq) hk)
 have HZL:=Lib.hid (fun j=> zipN_len hkq j)
 have HZN:=Lib.hid (fun j (h:j < Q.length)=> zipN_next hkq h)
 have HSH:=Lib.hid hs
 have HDR:=Lib.hid (fun (h:Q.length≤n)=> show Q.drop n=[]from List.drop_of_length_le h)
 have HOW:=Lib.hid (own_laid w ⟨kind,[],[],n⟩)
 have HB0:=Lib.hid (below_alloc' w (.cells #[.int .i64 kind, .string (sb []), .string (sb []), .int .i64 n] 61))
 have hn9:(n:Int)≤4000:=by omega
 clear hQ hK hRV hl hs hk
 go_enter Tryz.func117,Tryz.ntmps117
 go_wp2_with (with_reducible refine jo_build1 rfl _ rfl kind ⟨#[]⟩ ⟨#[]⟩ n rfl ?_)
 go_loopg [7,8] n (fun g v7 v8 wx=> ∃j x gb k:Nat,v7= .slice (some ⟨gb,0,none⟩) (x+1) k∧v8= .int .i64 (j:Int)∧j+g=n∧x≤4000∧Hid (x=(rowsOf (Q.take j)).flatten.length)∧Hid (RV=if (rowsOf (Q.drop j)).all rightPF=true then fineF (⟨kind,[],[],n⟩::zipN ks Q n) else [])∧Hid (OwnVals wx w.heap.size (.slice (some ⟨gb,0,none⟩) (x+1) k) (⟨kind,[],[],n⟩::zipN ks Q j)∧Below w.heap.size w wx))
 case atStart=> exact ⟨0,0,_,1,rfl,rfl,by omega,by omega,Lib.hid rfl,HRV,Lib.hid ⟨HOW.out,HB0.out⟩⟩
 case round=>
  clear HRV HOW HB0
  obtain ⟨j,x,gb,k,rfl,rfl,hjg,hx4,HX,HRV,HH⟩:=hrel
  cases gk with
  | zero=>
   have hjn:j=n:=by omega
   subst hjn
   have hge:¬(j:Int) < (j:Int):=by omega
   have HD2:=Lib.hid (HDR.out (by omega))
   rw [HD2.out]at HRV
   have HRV2:Hid (RV=fineF (⟨kind,[],[],j⟩::zipN ks Q j)):=Lib.hid (by rw [HRV.out];rfl)
   have HI:=Lib.hid (jo_rfine wr (some ⟨gb,0,none⟩) (x+1) k _ HH.out.1.at_.1 (by omega) HLS.out)
   clear HRV HX HD2
   unfold fineF at HRV2
   generalize rightPF (⟨kind,[],[],j⟩::zipN ks Q j)=RY at*
   have HLE2:=Lib.hid HH.out.2.size
   cases RY with
   | true=>
    go_wp2_with fail
    refine HI.out.mono ?_
    rintro e w7 ⟨rfl,HB8⟩
    clear HI
    go_wp2_with fail
    go_ret
    exact ⟨_,rfl,Lib.hid ⟨by rw [HRV2.out];exact HH.out.1.below HB8.out,HH.out.2.trans (HB8.out.mono HLE2.out)⟩⟩
   | false=>
    go_wp2_with fail
    refine HI.out.mono ?_
    rintro e w7 ⟨rfl,HB8⟩
    clear HI
    go_wp2_with fail
    go_ret
    exact ⟨_,rfl,Lib.hid ⟨by rw [HRV2.out];exact OwnVals.nil _ _,HH.out.2.trans (HB8.out.mono HLE2.out)⟩⟩
  | succ g=>
   have hj:j < Q.length:=by omega
   have hjk:j < ks.length:=by omega
   obtain ⟨b,o,rfl,cc⟩:=(HQ.out.below HH.out.2).cell hj
   obtain ⟨bk,ok,rfl,ck⟩:=(HK.out.below HH.out.2).cell hjk
   have HV:=Lib.hid ((HQ.out.below HH.out.2).ins _ (List.getElem_mem hj))
   have HN:=Lib.hid (rows_next Q hj)
   have HZ1:=Lib.hid (HZN.out j hj)
   have HZ0:=Lib.hid (HZL.out j)
   have hle:=HLE.out (j+1)
   rw [HN.out,List.length_append,←HX.out]at hle
   have HA:=Lib.hid (all_drop hj)
   have HS:=Lib.hid (HSH.out _ (List.getElem_mem hj))
   have hjn:(j:Int) < (n:Int):=by omega
   have hjn2:j < n:=by omega
   unfold Pc.enc at cc
   generalize Q[j]=p at*
   generalize ks[j]=key at*
   obtain ⟨pa,pc,prow⟩:=p
   dsimp only at*
   obtain ⟨pl,hpl⟩:∃pl,pl=prow.length:=⟨_,rfl⟩
   rw [←hpl]at cc hle
   have HPLN:=Lib.hid hpl
   rw [←hpl]at HV
   clear hpl
   have HR:=Lib.hid (js_rRight wr pa pl pc prow HV.out (by omega) HS.out)
   cases hr:rightPF prow with
   | false=>
    rw [hr]at HR
    have HRV2:Hid (RV=[]):=Lib.hid (by rw [HRV.out,HA.out,hr];rfl)
    have HLE2:=Lib.hid HH.out.2.size
    clear HRV HA hr HV HS HN HX HZ1 HZ0
    go_wp2_with fail
    refine HR.out.mono ?_
    rintro e w4 ⟨rfl,HB4⟩
    clear HR
    go_wp2_with fail
    go_ret
    exact ⟨_,rfl,Lib.hid ⟨by rw [HRV2.out];exact OwnVals.nil _ _,HH.out.2.trans (HB4.out.mono HLE2.out)⟩⟩
   | true=>
    rw [hr]at HR
    have HRV2:Hid (RV=if (rowsOf (Q.drop (j+1))).all rightPF=true then fineF (⟨kind,[],[],n⟩::zipN ks Q n) else []):=Lib.hid (by rw [HRV.out,HA.out,hr,Bool.true_and])
    have hp0:=(right_end hr).2.1
    have HP0:Hid (0 < pl):=Lib.hid (by rw [HPLN.out];exact hp0)
    obtain ⟨b3,o3,rfl,_,_⟩:=HV.out.at_ HP0.out
    have HX2:Hid (x+pl=(rowsOf (Q.take (j+1))).flatten.length):=Lib.hid (by rw [HN.out,List.length_append,HX.out,HPLN.out])
    have HLL:Hid ((⟨kind,[],[],n⟩::zipN ks Q j:List V).length=x+1):=Lib.hid (by rw [List.length_cons,HZ0.out,←HX.out])
    have HL5:Hid (((⟨kind,[],[],n⟩::zipN ks Q j:List V)++named key prow).length=x+pl+1):=Lib.hid (by rw [List.length_append,HLL.out,named_len,HPLN.out];omega)
    have HNL:Hid ((named key prow).length=pl):=Lib.hid (by rw [named_len,HPLN.out])
    have HL9:=Lib.hid hle
    clear HRV HA hr HS hp0 HN HX HZ0 hle
    go_wp2_with fail
    refine HR.out.mono ?_
    rintro e w4 ⟨rfl,HB4⟩
    clear HR
    go_upto_region 8 with fail
    have HBD:=Lib.hid (show Below wr.heap.size wr w4.drew from below_drewN HB4.out 1)
    have HSW:=Lib.hid HH.out.2.size
    have HBW:=Lib.hid (HH.out.2.trans (HBD.out.mono HSW.out))
    have HOD:=Lib.hid (HH.out.1.below HBD.out)
    have HVD:=Lib.hid (HV.out.below HBD.out)
    have cd:w4.drew.cell? ⟨b,o+j,none⟩=some (.slice (some ⟨b3,o3,none⟩) pl pc):=(kept_below HBD.out).cell cc (fun h=> h)
    have ce:w4.drew.cell? ⟨bk,ok+j,none⟩=some (.string (sb key)):=(kept_below HBD.out).cell ck (fun h=> h)
    have HNM:=Lib.hid (own_any HNL.out (jo_rnamed w4.drew ⟨b3,o3,none⟩ pl pc prow HVD.out (by have:=HL9.out;omega) HP0.out key))
    have HSD:=Lib.hid (show w.heap.size≤w4.drew.heap.size from HBW.out.size)
    clear HH HV HB4 HBD HVD HSW cc ck
    go_region_law (first
     | (with_reducible refine step_append_valsM rfl _ _ rfl w.heap.size (.slice (some ⟨gb,0,none⟩) (x+1) k) (⟨kind,[],[],n⟩::zipN ks Q j) rfl HO12.out ⟨g12,0,none⟩ pl k12 (named key prow) rfl HV12.out (by rw [HLL.out];have:=HL9.out;omega) HS12.out ?_;intro v5 w5 h1 h2 h3;have hg5:=h1.out.got (by rw [HL5.out];omega);rw [HL5.out]at hg5;obtain ⟨g5,k5,rfl, -⟩:=hg5;rw [List.cons_append,←HZ1.out]at h1;have HB14:=Lib.hid (HB13.out.trans (below_of_kept h2.out HS12.out (fun i hi e=> by omega)));clear h2 h3)
     | (refine step_callM rfl 68 #[.slice (some ⟨b3,o3,none⟩) pl pc, .string (sb key)] (by first | rfl | kernel_rfl) HNM.out ?_;rintro e w12 ⟨A12,k12,rfl,HH12⟩;have HB13:=Lib.hid (HBW.out.trans (HH12.out.2.2.mono HSD.out));have HO12:=Lib.hid (HOD.out.below HH12.out.2.2);have HS12:=Lib.hid (show w.heap.size≤w12.heap.size from Nat.le_trans HSD.out HH12.out.2.2.size);have hg12:=HH12.out.1.got (by rw [HNL.out];exact HP0.out);obtain ⟨g12,k13,e12, -⟩:=hg12;simp only [Value.slice.injEq]at e12;obtain ⟨rfl, -, -⟩:=e12;have HV12:=Lib.hid HH12.out.2.1;clear HH12;refine ⟨_,rfl, ?_⟩))
    all_goals
     go_wp2_with fail
     go_roundg g
     case measure=> omega
     case rel=> exact ⟨j+1,x+pl,g5,k5,rfl,by go_num,by omega,by have:=HL9.out;omega,HX2,HRV2,Lib.hid ⟨h1.out,HB14.out⟩⟩
set_option maxRecDepth 100000 in
set_option maxHeartbeats 4000000 in
theorem jo_rlist (w:World) (A:Option Addr) (n c:Nat) (Q:List Pc) (hQ:SlsAt w A n c Q) (hn:n≤4000) (hs:∀p∈Q,Short 1000000000 p.row) (hl:(rowsOf Q).flatten.length≤4000):
  Calls Tryz.prog 77 #[.slice A n c] w fun e w'=> ∃v',e= .returned v'∧Hid (OwnVals w' w.heap.size v' (listA (rowsOf Q))∧Below w.heap.size w w'):=by
 have hmk:=make_strs n (by omega)
 have HBA:=Lib.hid (below_alloc' w (.cells (List.replicate n (.string ⟨#[]⟩)).toArray 9))
 have HM:=Lib.hid (jo_rmade _ 5 _ n n _ (StrsAt.made w n) (fun k hk=> by rw [List.eq_of_mem_replicate hk];exact Nat.zero_le _) A c Q (hQ.below HBA.out) hn hs hl)
 have hr:List.replicate n ([]:List UInt8)=List.replicate (rowsOf Q).length []:=by rw [rowsOf_len,hQ.len]
 rw [hr,made_list]at HM
 have hn9:(n:Int)≤4000:=by omega
 clear hr hs hl hQ
 go_enter Tryz.func77,Tryz.ntmps77
 go_wp2_with fail
 refine HM.out.mono ?_
 rintro e w4 ⟨v4,rfl,HH⟩
 go_wp2_with fail
 go_ret
 exact ⟨_,rfl,Lib.hid ⟨HH.out.1.mono HBA.out.size,HBA.out.trans (HH.out.2.mono HBA.out.size)⟩⟩
set_option maxRecDepth 100000 in
set_option maxHeartbeats 4000000 in
theorem jo_robject (w:World) (A:Option Addr) (n c:Nat) (ks:List (List UInt8)) (hK:StrsAt w A n c ks) (hk:∀k∈ks,k.length≤1000000000) (A2:Option Addr) (n2 c2:Nat) (Q:List Pc) (hQ:SlsAt w A2 n2 c2 Q) (hn:n2≤4000) (hs:∀p∈Q,Short 1000000000 p.row) (hl:(rowsOf Q).flatten.length≤4000):
  Calls Tryz.prog 112 #[.slice A n c, .slice A2 n2 c2] w fun e w'=> ∃v',e= .returned v'∧Hid (OwnVals w' w.heap.size v' (objA ks (rowsOf Q))∧Below w.heap.size w w'):=by
 by_cases h:n=n2
 ·subst h
  have HM:=Lib.hid (jo_rmade w 6 A n c ks hK hk A2 c2 Q hQ hn hs hl)
  rw [made_obj ks _ (by rw [rowsOf_len,hK.len,hQ.len])]at HM
  have hb:((n:Int) !=(n:Int))=false:=by simp
  clear hK hk hQ hs hl
  go_enter Tryz.func112,Tryz.ntmps112
  go_wp2_with fail
  refine HM.out.mono ?_
  rintro e w4 ⟨v4,rfl,HH⟩
  clear HM
  go_wp2_with fail
  go_ret
  exact ⟨_,rfl,HH⟩
 ·have hne:objA ks (rowsOf Q)=[]:=by
   unfold objA
   rw [if_neg (fun e=> h (by have:=e.2;rw [rowsOf_len,hK.len,hQ.len]at this;exact this))]
  rw [hne]
  have hni:¬(n:Int)=(n2:Int):=by omega
  have hb:((n:Int) !=(n2:Int))=true:=bne_iff_ne.2 hni
  clear hK hk hQ hs hl hne
  go_enter Tryz.func112,Tryz.ntmps112
  go_wp2_with fail
  go_ret
  exact ⟨_,rfl,Lib.hid ⟨OwnVals.nil _ _,Below.refl _ _⟩⟩
end Go.Proofs.YtmkjcleecjjchaaGreatDoor
namespace Go.Proofs.YtmkjcleecjjchaaGreatDoor
open Go.RowKit Sh Jt Js Jo
namespace Jo
theorem quote_short:∀(m:Nat) (s:List UInt8),s.length≤m→(quoteB s).length≤6*s.length
 | _,[],_=> by rw [quote_nil];exact Nat.zero_le _
 | 0,_::_,h=> by simp at h
 | m+1,a::r,h=> by
  by_cases h0:(charF (a::r)).2=0
  ·rw [quote_bad h0,List.length_append]
   have h1:=quote_short m r (by simpa using h)
   have h2:=bytes_len 65533
   rw [List.length_cons]
   omega
  ·rw [quote_on h0,List.length_append]
   obtain ⟨c1,c2⟩:=char_len h0
   have hd:((a::r).drop (charF (a::r)).2).length=(a::r).length - (charF (a::r)).2:=List.length_drop
   have h1:=quote_short m ((a::r).drop (charF (a::r)).2) (by omega)
   have h2:(if (charF (a::r)).1 < 128 then Jt.oneF (charF (a::r)).1 else bytesF (charF (a::r)).1).length≤6:=by
    split
    next hlt=> exact one_len hlt
    next _=> have:=bytes_len (charF (a::r)).1;omega
   omega
end Jo
theorem jo_rmended (w:World) (s:List UInt8) (hs:s.length≤250000):Calls Tryz.prog 155 #[.string (sb s)] w fun e w'=> e= .returned (.string (sb (fixF s)))∧Hid (Below w.heap.size w w'):=by
 have HQ:=Lib.hid (jt_rquote w s (by omega))
 have hq:(quoteF s).length≤1000000000:=by
  have:=quote_short s.length s (Nat.le_refl _)
  unfold quoteF
  rw [List.length_cons,List.length_append]
  have h1:([34]:List UInt8).length=1:=rfl
  omega
 have HU:=Lib.hid (fun W=> jt_runquote W (quoteF s) hq)
 have hb:=unq_back s []
 rw [List.append_nil]at hb
 rw [hb]at HU
 unfold unqV at HU
 dsimp only at HU
 clear hb hq hs
 generalize (quoteF s).length=qn at*
 generalize sb (quoteF s)=Z at*
 generalize sb (fixF s)=F at*
 generalize sb s=S at*
 go_enter Tryz.func155,Tryz.ntmps155
 go_wp2_with fail
 refine HQ.out.mono ?_
 rintro e w2 ⟨rfl,B2⟩
 have HB2:=Lib.hid B2
 clear HQ B2
 go_wp2_with fail
 refine (HU.out w2).mono ?_
 rintro e w3 ⟨rfl,B3⟩
 have HB3:=Lib.hid (HB2.out.trans (B3.mono HB2.out.size))
 clear HU B3 HB2
 go_wp2_with fail
 go_ret
 exact ⟨rfl,HB3⟩
theorem jo_rtext (w:World) (s:List UInt8) (hs:s.length≤250000):Calls Tryz.prog 113 #[.string (sb s)] w fun e w'=> ∃v',e= .returned v'∧Hid (OwnVals w' w.heap.size v' [⟨4,[],fixF s,0⟩]∧Below w.heap.size w w'):=by
 have HI:=Lib.hid (jo_rmended w s hs)
 have HOW:=Lib.hid (fun W=> own_laid W ⟨4,[],fixF s,0⟩)
 have HBW:=Lib.hid (fun W=> below_alloc' W (.cells #[.int .i64 4, .string (sb []), .string (sb (fixF s)), .int .i64 0] 61))
 dsimp only at HOW
 clear hs
 generalize sb (fixF s)=F at*
 generalize sb s=S at*
 go_enter Tryz.func113,Tryz.ntmps113
 go_wp2_with fail
 refine HI.out.mono ?_
 rintro e w3 ⟨rfl,HB3⟩
 clear HI
 go_wp2_with (with_reducible refine jo_build1 rfl _ rfl 4 ⟨#[]⟩ F 0 rfl ?_)
 go_ret
 exact ⟨_,rfl,Lib.hid ⟨(HOW.out w3).mono HB3.out.size,HB3.out.trans ((HBW.out w3).mono HB3.out.size)⟩⟩
theorem jo_rint (w:World) (n:Int) (h0: -9223372036854775808≤n) (h1:n≤9223372036854775807):Calls Tryz.prog 115 #[.int .i64 n] w fun e w'=> ∃v',e= .returned v'∧Hid (OwnVals w' w.heap.size v' [⟨3,[],textF n,0⟩]∧Below w.heap.size w w'):=by
 have HI:=Lib.hid (jt_text w n h0 h1)
 have HOW:=Lib.hid (fun W=> own_laid W ⟨3,[],textF n,0⟩)
 have HBW:=Lib.hid (fun W=> below_alloc' W (.cells #[.int .i64 3, .string (sb []), .string (sb (textF n)), .int .i64 0] 61))
 dsimp only at HOW
 clear h0 h1
 generalize sb (textF n)=F at*
 go_enter Tryz.func115,Tryz.ntmps115
 go_wp2_with fail
 refine HI.out.mono ?_
 rintro e w3 ⟨rfl,B3⟩
 have HB3:=Lib.hid B3
 clear HI B3
 go_wp2_with (with_reducible refine jo_build1 rfl _ rfl 3 ⟨#[]⟩ F 0 rfl ?_)
 go_ret
 exact ⟨_,rfl,Lib.hid ⟨(HOW.out w3).mono HB3.out.size,HB3.out.trans ((HBW.out w3).mono HB3.out.size)⟩⟩
end Go.Proofs.YtmkjcleecjjchaaGreatDoor
