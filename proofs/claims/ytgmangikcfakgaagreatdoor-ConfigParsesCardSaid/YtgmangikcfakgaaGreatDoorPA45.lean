import Derived.Test.YtgmangikcfakgaaGreatDoorPA44
set_option maxRecDepth 100000
set_option maxHeartbeats 40000000
namespace Go.Proofs.YtgmangikcfakgaaGreatDoor
open Go.RowKit Sh Jt Js Jo
theorem qs3 (w:World) (A:Option Addr) (n c:Nat) (G:List (List UInt8)) (hG:GsAt w A n c G) (hn:n≤60) (hT:TabOk w):
  Calls Tryz.prog 76 #[.slice A n c] w fun e w'=> ∃v',e= .returned v'∧Hid (OwnVals w' w.heap.size v' (rootV G)∧Below w.heap.size w w'):=by
 have hlen:=hG.len
 have HG:=Qh (fun W (q:Below w.heap.size w W)=> hG.below q)
 have HTB:=Qh (fun W (q:Below w.heap.size w W)=> hT.below q)
 obtain ⟨X,hX⟩:∃X,X=rootV G:=⟨_,rfl⟩
 rw [←hX]
 have HX:=Qh (hX.trans (qxk (by omega)).symm)
 clear hG hX hT
 have hb1:=qdx
 have hb2:=qgb
 have hbs:=ql2
 go_enter Tryz.func76,Tryz.ntmps76
 go_wp2_with fail
 go_loopg [3,8] n (fun g v3 v8 wx=> ∃(j:Nat) (Q:List Pc),v8= .int .i64 (j:Int)∧j+g=n∧Hid (Q.length=j)∧Hid (RowsG w wx v3 (G.take j) Q))
 case atStart=> exact ⟨0,[],rfl,by omega,Qh rfl,Qh ⟨OwnSls.nil _ _,rfl,Below.refl _ _⟩⟩
 case round=>
  obtain ⟨j,Q,rfl,hjg,HQL,HH⟩:=hrel
  cases gk with
  | zero=>
   obtain rfl:j=n:=by omega
   have hall:G.take j=G:=List.take_of_length_le (by omega)
   rw [hall]at HH
   obtain ⟨A3,k3,rfl,hsl⟩:=HH.out.own.sls
   rw [HQL.out]at hsl ⊢
   have HSL:=Qh hsl
   have HRO:=Qh HH.out.rows
   have HBW:=Qh HH.out.below
   clear hsl hall HH;have hge:¬(j:Int) < (j:Int):=by omega
   have HXR:Hid (X=objA [typeK,diffK] [[⟨4,[],fixF layersK,0⟩],listA (rowsOf Q)]):=Qh (by rw [HX.out,HRO.out])
   have HQS:=Qh (show ∀p∈Q,Short 1000000000 p.row from fun p hp=> by
    have h1:p.row∈rowsOf Q:=List.mem_map.2 ⟨p,hp,rfl⟩
    rw [HRO.out]at h1
    obtain ⟨d,hd,e⟩:=List.mem_map.1 h1
    have h32:=(HG.out w (Below.refl _ _)).dig d hd
    have ht:=Dg.qf5 d
    rw [←e];exact qb3 (Nat.zero_le _) (by show (Dg.text d).length≤1000000000;omega))
   have HQF:=Qh (show (rowsOf Q).flatten.length≤60 from by rw [HRO.out,qfp];omega)
   have HLS:=Qh (show Short 1000000000 (listA (rowsOf Q))from qfy fun p hp=> by
    obtain ⟨q,hq,rfl⟩:=List.mem_map.1 hp
    exact HQS.out q hq)
   have HLL:=Qh (show (listA (rowsOf Q)).length≤61 from by
    rw [HRO.out,(qm8 (by omega)).1];have:=qfp G
    unfold listF;rw [List.length_cons];omega)
   have HT:=Qh (fun W=> show Calls _ _ #[.string ⟨#[108,97,121,101,114,115]⟩] _ _ from qaj (n:=1) rfl (qiw W layersK (by decide)))
   clear HRO HX;go_wp2_with fail;have HST:Hid (StrsAt (wr.alloc (.cells #[.string ⟨#[116,121,112,101]⟩, .string ⟨#[100,105,102,102,95,105,100,115]⟩] 9)) (some ⟨wr.heap.size,0,none⟩) 2 2 [typeK,diffK]):=Qh (StrsAt.new2 wr typeK diffK)
   have HBA:=Qh (qac wr (.cells #[.string ⟨#[116,121,112,101]⟩, .string ⟨#[100,105,102,102,95,105,100,115]⟩] 9))
   generalize hW0:wr.alloc (.cells #[.string ⟨#[116,121,112,101]⟩, .string ⟨#[100,105,102,102,95,105,100,115]⟩] 9)=w4 at HST HBA;generalize hW:World.alloc _ _=W';obtain rfl:w4=W':=hW0.symm.trans hW
   clear hW hW0;have B4:=Qh (HBW.out.trans (HBA.out.mono HBW.out.size))
   have HSL4:=Qh (HSL.out.below HBA.out)
   clear HBW HBA HSL;refine (HT.out w4).mono ?_
   rintro e w5 ⟨A5,k5,rfl,H5⟩;have B5:=Qh (B4.out.trans (H5.out.2.2.mono B4.out.size))
   have HSL5:=Qh (HSL4.out.below H5.out.2.2)
   have HST5:=Qh (HST.out.below H5.out.2.2)
   have HV5:=Qh H5.out.2.1
   clear B4 HSL4 HST H5 HT;go_wp2_with fail;refine (qaj rfl (qls w5 A3 j k3 Q HSL5.out (by omega) HQS.out (by have:=HQF.out;omega) (HTB.out w5 B5.out))).mono ?_
   rintro e w6 ⟨A6,k6,rfl,H6⟩;have B6:=Qh (B5.out.trans (H6.out.2.2.mono B5.out.size))
   have HST6:=Qh (HST5.out.below H6.out.2.2)
   have HV56:=Qh (HV5.out.below H6.out.2.2)
   have HV6:=Qh H6.out.2.1
   clear B5 HSL5 HST5 HV5 H6 HQS HQF;generalize listA (rowsOf Q)=LQ at*;generalize hk9:[(⟨4,[],fixF layersK,0⟩:V)]=LK at*;have HLK:=Qh (show Short 1000000000 LK∧LK.length=1 from by
    rw [←hk9,qc2 _ (qax _ (by decide):validF layersK=true)];exact ⟨qb3 (Nat.zero_le _) (by decide),rfl⟩)
   clear hk9;go_wp2_with fail;have HS2:=Qh (show SlsAt (w6.alloc (.cells #[.slice A5 1 k5, .slice A6 LQ.length k6] 26)) (some ⟨w6.heap.size,0,none⟩) 2 2 [⟨A5,k5,LK⟩,⟨A6,k6,LQ⟩]from
    SlsAt.new w6 [⟨A5,k5,LK⟩,⟨A6,k6,LQ⟩] (fun p hp=> by
     rcases List.mem_cons.1 hp with rfl | hp
     ·show ValsAt w6 A5 LK.length k5 LK
      rw [HLK.out.2];exact HV56.out
     ·rw [List.mem_singleton.1 hp]
      exact HV6.out) _ (by
      show _=#[Value.slice A5 LK.length k5, .slice A6 LQ.length k6]
      rw [HLK.out.2]) 2 rfl)
   have HB7:=Qh (qac w6 (.cells #[.slice A5 1 k5, .slice A6 LQ.length k6] 26))
   have B7:=B6.out.trans (HB7.out.mono B6.out.size)
   refine (qhp _ (some ⟨wr.heap.size,0,none⟩) 2 2 [typeK,diffK] (HST6.out.below HB7.out) (by decide) (by decide) (some ⟨w6.heap.size,0,none⟩) 2 2 _ HS2.out (by decide) (fun p hp=> by
     rcases List.mem_cons.1 hp with rfl | hp
     ·exact HLK.out.1
     ·rw [List.mem_singleton.1 hp]
      exact HLS.out) (by
     show [LK,LQ].flatten.length≤4000
     have h1:LQ.length≤61:=HLL.out
     have h2:=HLK.out.2
     rw [List.flatten_cons,List.flatten_cons,List.flatten_nil,List.append_nil,List.length_append];omega) (HTB.out _ B7)).mono ?_
   rintro e w8 ⟨v8,rfl,H8⟩;go_wp2_with fail;go_ret;exact ⟨_,rfl,Qh ⟨by rw [HXR.out];exact H8.out.1.mono B7.size,B7.trans (H8.out.2.mono B7.size)⟩⟩
  | succ g=>
   have hj:j < G.length:=by omega
   obtain ⟨b,o,rfl,hb,_⟩:=(HG.out wr HH.out.below).at_ (by omega)
   have HON:=Qh ((HG.out wr HH.out.below).one hj)
   have HDD:=Qh ((HG.out wr HH.out.below).dig _ (List.getElem_mem hj))
   have HNX:=Qh (show G.take (j+1)=G.take j++[G[j]]from List.take_succ_eq_append_getElem hj)
   generalize G[j]=d at*;have hjn:(j:Int) < (n:Int):=by omega
   have hjp:(0:Int)≤(j:Int):=by omega
   clear hbs hb2;go_upto_region 5 with (first
    | ((with_reducible refine qas ?_ 52 (.tmp 10) ?_ b (o+j*32) (d.map v8) (d.map v8).toArray ?_ _ ?_ Tryz.underlying52 ?_ ?_ ?_ ?_);rfl;rfl;go_must (rfl;exact HON.out;rfl;(rw [List.length_map,HDD.out];exact qdc);rfl))
    | ((with_reducible refine qaf ?_ 52 (.tmp 5) (.tmp 11) ?_ wr.heap.size (d.map v8) ?_ ?_ (List.replicate 32 (v8 0)) ?_ ?_ ?_ ?_ ?_);rfl;rfl;go_must (rfl;rfl;(rw [List.length_replicate,List.length_map,HDD.out]);exact Row.at_ _ _ _ rfl rfl;(rw [List.length_map,HDD.out];exact qdc);exact qbl v8 (fun _=> rfl) d;intro w2 R2 K2 E2)))
   have KB2:=Qh (show Below wr.heap.size wr w2 from (qaq K2.out).below (Nat.le_refl _) (fun _ _ h=> h))
   have HH2:=Qh (HH.out.next KB2.out)
   clear K2 E2 KB2 HH HON;generalize wr.heap.size=q at*;go_wp2_with ((with_reducible refine qas ?_ 52 (.tmp 5) ?_ q 0 (d.map v8) (d.map v8).toArray ?_ _ ?_ Tryz.underlying52 ?_ ?_ ?_ ?_);rfl;rfl;go_must (rfl;exact qan R2.out;rfl;(rw [List.length_map,HDD.out];exact qdc);rfl))
   refine (qwq d HDD.out w2).mono ?_
   rintro e w4 ⟨rfl,K4⟩;have HS4:=Qh (HH2.out.next K4)
   clear K4 HH2 R2;have htx:(Dg.text d).length≤1000000000:=by
    have:=Dg.qf5 d
    have:=HDD.out
    omega
   go_wp2_with fail;have HTX:=qiw w4 (Dg.text d) htx
   rw [qc2 _ (qes d)]at HTX
   refine (show Calls _ _ #[.string ⟨(Dg.text d).toArray⟩] _ _ from qaj (L:=idV d) (n:=1) rfl HTX).mono ?_
   clear HTX;rintro e w5 ⟨A5,k5,rfl,H5⟩;have HS5:=Qh (HS4.out.next H5.out.2.2)
   have HFA:=Qh (q1h HS4.out.own H5.out.1 (Nat.le_refl _) (Nat.le_refl _))
   have HV5:=Qh H5.out.2.1
   clear H5 HS4 htx;go_wp2_with (at_builtin;go_must (with_reducible refine qky rfl _ _ rfl w.heap.size u3 Q rfl (HS5.out.own.below (qac _ _)) w5.heap.size ⟨A5,k5,idV d⟩ rfl ((Row.new w5 26 [.slice A5 1 k5]).cell rfl) (HV5.out.below (qac _ _)) (fun b o e=> ⟨Nat.lt_of_lt_of_le (HFA.out b o e).1 (qac _ _).size,(HFA.out b o e).2⟩) (by rw [HQL.out];omega) (Nat.le_trans HS5.out.below.size (qac _ _).size) ?_;intro v6 w6 h1 h2))
   go_roundg g
   case measure=> omega
   case rel=> exact ⟨j+1,Q++[⟨A5,k5,idV d⟩],by go_num,by omega,Qh (by rw [List.length_append,HQL.out];rfl),Qh ⟨h1.out,by unfold rowsOf;rw [List.map_append,HNX.out,List.map_append,←HS5.out.rows];rfl,qkk (HS5.out.below.trans ((qac _ _).mono HS5.out.below.size)) h2.out⟩⟩
theorem qvy (w:World) (c:Cfg) (P:List Pe) (A1:Option Addr) (n1 c1:Nat) (A2:Option Addr) (n2 c2:Nat) (A3:Option Addr) (n3 c3:Nat) (hC:ConfIn w c P A1 n1 c1 A2 n2 c2 A3 n3 c3) (hF:FitC c) (hn2:n2≤140737488355328) (hn3:n3≤5000)
  (hO:∀h∈c.hist,h.who.length≤250000∧h.rest.length≤5000) (hsum:(c.hist.map rowH).flatten.length≤4000) (hT:TabOk w):
  Calls Tryz.prog 43 #[.agg #[.slice A1 n1 c1, .slice A2 n2 c2, .slice A3 n3 c3]] w fun e w'=> ∃v',e= .returned v'∧Hid (OwnVals w' w.heap.size v' (rowC c)∧Below w.heap.size w w'):=by
 obtain ⟨X,hX⟩:∃X,X=rowC c:=⟨_,rfl⟩
 rw [←hX]
 have HXX:=Qh hX
 have hlen:=hC.hist.len
 have hlen1:=hC.ids.len
 have hlen3:=hC.rest.len
 have hh:=congrArg List.length hC.same
 unfold histsOf at hh
 rw [List.length_map]at hh
 have HC:=Qh (fun W (q:Below w.heap.size w W)=> hC.below q)
 have HT:=Qh (fun W (q:Below w.heap.size w W)=> hT.below q)
 have HSM:=Qh hC.same
 have HD:=Qh hC.ids.dig
 have HF:=Qh hF
 have HO:=Qh hO
 have HSU:=Qh hsum
 have HIR:=Qh (fun W (q:Below w.heap.size w W)=> qna W A3 n3 c3 c.rest (hC.below q).rest (by omega) (qar hF.rest (by decide)) (hT.below q) rootK histK)
 change Hid (∀W,_→Calls _ _ #[_, .string ⟨#[114,111,111,116,102,115]⟩, .string ⟨#[104,105,115,116,111,114,121]⟩] _ _)at HIR
 have HBX:=Qh (show Row (w.alloc (.cells #[.slice A1 n1 c1, .slice A2 n2 c2, .slice A3 n3 c3] 28)) w.heap.size 28 [.slice A1 n1 c1, .slice A2 n2 c2, .slice A3 n3 c3]from Row.new _ _ _)
 have HB00:=Qh (qac w (.cells #[.slice A1 n1 c1, .slice A2 n2 c2, .slice A3 n3 c3] 28))
 clear hC hX hF hO hsum hT
 go_enter Tryz.func43,Tryz.ntmps43
 go_upto_region 1 with fail
 generalize hW0:w.alloc (Obj.cells #[.slice A1 n1 c1, .slice A2 n2 c2, .slice A3 n3 c3] 28)=w0 at HBX HB00
 generalize hW:World.alloc _ _=W'
 obtain rfl:w0=W':=hW0.symm.trans hW
 clear hW hW0
 have HBB:=Qh (fun W (k:Below w0.heap.size w0 W)=> show Below w.heap.size w W from HB00.out.trans (k.mono HB00.out.size))
 have HKF:=Qh (fun W (q:Below w0.heap.size w0 W)=> show W.cell? ⟨w.heap.size,2,none⟩=some (.slice A3 n3 c3)∧W.cell? ⟨w.heap.size,0,none⟩=some (.slice A1 n1 c1)∧Below w0.heap.size w0 W from by
  have r:=HBX.out.below q HBX.out.lt
  exact ⟨r.cell (i:=2) rfl,r.cell (i:=0) rfl,q⟩)
 have HK1:=Qh (fun W (q:Below w0.heap.size w0 W)=> show W.cell? ⟨w.heap.size,1,none⟩=some (.slice A2 n2 c2)from (HBX.out.below q HBX.out.lt).cell (i:=1) rfl)
 clear HBX HB00
 obtain ⟨x2, -, -⟩:=HKF.out w0 (Below.refl _ _)
 go_wp2_with fail
 refine (HIR.out w0 (HBB.out w0 (Below.refl _ _))).mono ?_
 rintro e w1 ⟨rfl,K1⟩
 have HBN:=Qh K1.out
 clear K1 HIR x2
 cases hp:plainF c.rest rootK histK with
 | false=>
  have HX:=Qh (show X=[]from by rw [HXX.out];exact ql1 (.inl hp))
  go_wp2_with fail;go_ret;rw [HX.out];exact ⟨_,rfl,Qh ⟨OwnVals.nil _ _,HBB.out _ HBN.out⟩⟩
 | true=>
 obtain ⟨-,x0, -⟩:=HKF.out w1 HBN.out
 have x1:=HK1.out w1 HBN.out
 go_wp2_with fail
 refine (qms w1 A1 n1 c1 A2 n2 c2).mono ?_
 rintro e w2 ⟨rfl,K2⟩
 replace HBN:=Qh (HBN.out.trans (K2.out.mono HBN.out.size))
 clear K2 x0 x1
 by_cases hfew:n1≤60∧n2≤200
 case neg=>
  rw [decide_eq_false hfew];have hff:¬c.ids.length≤60∨¬c.hist.length≤200:=by omega
  have HX:=Qh (show X=[]from by rw [HXX.out];exact ql1 (.inr (hff.elim .inl (fun h=> .inr (.inl h)))))
  go_wp2_with fail;go_ret;rw [HX.out];exact ⟨_,rfl,Qh ⟨OwnVals.nil _ _,HBB.out _ HBN.out⟩⟩
 rw [decide_eq_true hfew]
 obtain ⟨h60,h200⟩:=hfew
 obtain ⟨-,x0, -⟩:=HKF.out w2 HBN.out
 have x1:=HK1.out w2 HBN.out
 have HAM:=Qh (qhm w2 A1 n1 c1 A2 n2 c2 P (HC.out w2 (HBB.out w2 HBN.out)).hist hn2)
 rw [HSM.out]at HAM
 go_wp2_with fail
 refine HAM.out.mono ?_
 rintro e w3 ⟨rfl,K3⟩
 replace HBN:=Qh (HBN.out.trans (K3.out.mono HBN.out.size))
 clear K3 x0 x1 HAM
 by_cases hma:0 < n2→layersN c.hist=n1
 case neg=>
  rw [decide_eq_false hma];have hff:¬(0 < c.hist.length→layersN c.hist=c.ids.length):=fun h=> hma (fun h0=> by rw [h (by omega)];omega)
  have HX:=Qh (show X=[]from by rw [HXX.out];exact ql1 (.inr (.inr (.inr hff))))
  go_wp2_with fail;go_ret;rw [HX.out];exact ⟨_,rfl,Qh ⟨OwnVals.nil _ _,HBB.out _ HBN.out⟩⟩
 rw [decide_eq_true hma]
 have HXB:=Qh (show X=sortA (if c.hist=[] then setA c.rest rootK (rootV c.ids) else setA (setA c.rest rootK (rootV c.ids)) histK (listA (c.hist.map rowX)))from by rw [HXX.out];exact qyo hp (by omega) (by omega) (fun h0=> by rw [hma (by omega)];omega))
 clear HXX hma hp
 go_upto_region 3 with fail
 have HBD:=Qh (show Below w0.heap.size w0 w3.drew from qaa HBN.out 1)
 clear HBN
 have HKP:=Qh (HKF.out _ HBD.out)
 have hrl:(rootV c.ids).length≤63:=by
  have:=qgi c.ids
  omega
 have HSR:=Qh (show Short 1048576 (rootV c.ids)from qk0 (by decide) HD.out)
 refine wp_region_noPanic ?_
 refine wp_region_held_drew (S:=fun x=> x.cell? ⟨w.heap.size,2,none⟩=some (.slice A3 n3 c3)∧x.cell? ⟨w.heap.size,0,none⟩=some (.slice A1 n1 c1)∧Below w0.heap.size w0 x) (by kernel_rfl) HKP.out (fun hHeld=> ?_)
 refine wpAnyH_take (i:=0) (v:= .pointer (some ⟨w.heap.size,2,none⟩)) rfl (by kernel_rfl) (by kernel_rfl) (by kernel_rfl) (fun _ _ _ h=> h) (Or.inl ⟨by rfl, ?_⟩) hHeld ?_
 ·intro x hx;obtain ⟨hx,_,_⟩:=hx;go_simp
 simp only [Act.put,List.setIfInBounds_toArray]
 refine wpAnyH_take (i:=2) (v:= .pointer (some ⟨w.heap.size,0,none⟩)) rfl (by kernel_rfl) (by kernel_rfl) (by kernel_rfl) (fun _ _ _ h=> h) (Or.inl ⟨by rfl, ?_⟩) hHeld ?_
 ·intro x hx;obtain ⟨hx,_,_⟩:=hx;go_simp
 simp only [Act.put]
 refine wpAnyH_take (i:=1) (v:= .slice A3 n3 c3) rfl (by kernel_rfl) (by kernel_rfl) (by kernel_rfl) (fun _ _ _ h=> h) (Or.inl ⟨by rfl, ?_⟩) hHeld ?_
 ·intro x hx;obtain ⟨hx,_,_⟩:=hx;go_simp
 simp only [Act.put]
 refine wpAnyH_take (i:=3) (v:= .slice A1 n1 c1) rfl (by kernel_rfl) (by kernel_rfl) (by kernel_rfl) (fun _ _ _ h=> h) (Or.inl ⟨by rfl, ?_⟩) hHeld ?_
 ·intro x hx;obtain ⟨_,hx,_⟩:=hx;go_simp
 simp only [Act.put]
 refine wpAnyH_ready (rs:=[4]) (by kernel_rfl) (by simp) ?_
 refine AllReadyH.cons rfl (fun K hK=> ?_) AllReadyH.nil
 refine qk1 rfl 76 #[.slice A1 n1 c1] (by first | rfl | kernel_rfl) (qaj rfl (qs3 _ A1 n1 c1 c.ids (HC.out _ (HBB.out _ HBD.out)).ids h60 (HT.out _ (HBB.out _ HBD.out)))) ?_
 rintro e w4 ⟨A4,k4,rfl,HH⟩
 have HBE:=Qh (HBD.out.trans (HH.out.2.2.mono HBD.out.size))
 have HV4:=Qh HH.out.2.1
 refine ⟨_,rfl, ?_⟩
 refine hK.out _ _ (HKF.out _ HBE.out) (fun hHeld=> ?_)
 clear hK K HH HBD HKP
 simp only [Act.put]
 refine wpAnyH_ready (rs:=[5]) (by kernel_rfl) (by simp) ?_
 refine AllReadyH.cons rfl (fun K hK=> ?_) AllReadyH.nil
 refine qk1 rfl 75 #[.slice A3 n3 c3, .string (sb rootK), .slice A4 (rootV c.ids).length k4] (by first | rfl | kernel_rfl) (qaj rfl (qh7 _ A3 n3 c3 c.rest (HC.out _ (HBB.out _ HBE.out)).rest (by omega) (qar HF.out.rest (by decide)) (HT.out _ (HBB.out _ HBE.out)) A4 _ k4 (rootV c.ids) HV4.out (by omega) (qar HSR.out (by decide)) rootK (by decide))) ?_
 rintro e w6 ⟨A6,k6,rfl,HH⟩
 have HBN:=Qh (HBE.out.trans (HH.out.2.2.mono HBE.out.size))
 have HVN:=Qh HH.out.2.1
 refine ⟨_,rfl, ?_⟩
 refine hK.out _ _ (HKF.out _ HBN.out) (fun hHeld=> ?_)
 clear hK K HH HBE HV4
 simp only [Act.put]
 refine wpAnyH_take (i:=6) (v:= .slice A6 (setA c.rest rootK (rootV c.ids)).length k6) rfl (by kernel_rfl) (by kernel_rfl) (by kernel_rfl) (fun _ _ _ h=> h) (Or.inl ⟨by rfl, ?_⟩) hHeld ?_
 ·intro x hx;go_simp
 simp only [Act.put]
 refine wpAnyH_done (by kernel_rfl) ?_ _
 refine NoPanic.normal ?_
 have HSA:=Qh (qcg HF.out.rest HSR.out (key:=rootK) (by decide))
 have hA6:=qh6 c.rest (rootV c.ids) rootK
 clear HKF HSR hrl
 generalize setA c.rest rootK (rootV c.ids)=SA at*
 have x1:=HK1.out w6 HBN.out
 by_cases h0:0 < n2
 case neg=>
  have hnil:c.hist=[]:=List.eq_nil_of_length_eq_zero (by omega)
  have HXR:Hid (X=sortA SA):=Qh (by rw [HXB.out,if_pos hnil])
  have hg0:¬(0:Int) < (n2:Int):=by omega
  clear HXB HSU HO HK1;go_wp2_with fail;refine (qev w6 A6 _ k6 SA HVN.out (by omega) (qar HSA.out (by decide)) (HT.out _ (HBB.out _ HBN.out))).mono ?_
  rintro e w9 ⟨val,rfl,H9⟩;go_wp2_with fail;go_ret;exact ⟨_,rfl,Qh ⟨by rw [HXR.out];exact H9.out.1.mono (HBB.out _ HBN.out).size,HBB.out _ (HBN.out.trans (H9.out.2.mono HBN.out.size))⟩⟩
 have hne:¬c.hist=[]:=fun e=> by
  rw [e,List.length_nil]at hh
  omega
 have HXR:Hid (X=sortA (setA SA histK (listA (c.hist.map rowX)))):=Qh (by rw [HXB.out,if_neg hne])
 have hg0:(0:Int) < (n2:Int):=by omega
 clear HXB hne
 have HHR:=Qh (qn7 w6 A2 n2 c2 P (HC.out _ (HBB.out _ HBN.out)).hist h200 (by rw [HSM.out];exact HF.out.hist) (by rw [HSM.out];exact HO.out) (by rw [HSM.out];exact HSU.out) (HT.out _ (HBB.out _ HBN.out)))
 rw [HSM.out]at HHR
 have HSB:=Qh (qfy (P:=c.hist.map rowX) (k:=1048576) (fun p hp=> by
  obtain ⟨h,hm,rfl⟩:=List.mem_map.1 hp
  have:=HO.out h hm
  unfold rowX;split
  ·exact qha (by decide) (by omega) (HF.out.hist h hm).rest
  ·exact fun v hv=> by cases hv))
 have hA7:=que (c.hist.map rowX)
 clear HO HSU HC HSM HF
 generalize listA (c.hist.map rowX)=LQ at*
 go_upto_region 5 with fail
 go_wp2_with fail
 refine (show Calls _ _ _ _ _ from qaj rfl HHR.out).mono ?_
 rintro e w7 ⟨A7,k7,rfl,H7⟩
 have HB7:=Qh (HBN.out.trans (H7.out.2.2.mono HBN.out.size))
 have HV6':=Qh (HVN.out.below H7.out.2.2)
 have HV7:=Qh H7.out.2.1
 clear H7 HBN HVN HHR x1
 go_wp2_with fail
 refine (show Calls _ _ #[_, .string ⟨#[104,105,115,116,111,114,121]⟩,_] _ _ from qaj rfl (qh7 w7 A6 _ k6 SA HV6'.out (by omega) (qar HSA.out (by decide)) (HT.out _ (HBB.out _ HB7.out)) A7 _ k7 LQ HV7.out (by omega) (qar HSB.out (by decide)) histK (by decide))).mono ?_
 rintro e w8 ⟨A8,k8,rfl,H8⟩
 have HB8:=Qh (HB7.out.trans (H8.out.2.2.mono HB7.out.size))
 have HV8:=Qh H8.out.2.1
 have hA8:=qh6 SA LQ histK
 have HSZ:=Qh (qcg HSA.out HSB.out (key:=histK) (by decide))
 clear H8 HB7 HV7 HV6'
 generalize setA SA histK LQ=SB at*
 go_wp2_with fail
 refine (qev w8 A8 _ k8 SB HV8.out (by omega) (qar HSZ.out (by decide)) (HT.out _ (HBB.out _ HB8.out))).mono ?_
 rintro e w9 ⟨val,rfl,H9⟩
 go_wp2_with fail
 go_ret
 exact ⟨_,rfl,Qh ⟨by rw [HXR.out];exact H9.out.1.mono (HBB.out _ HB8.out).size,HBB.out _ (HB8.out.trans (H9.out.2.mono HB8.out.size))⟩⟩
theorem qyj (w:World) (c:Cfg) (P:List Pe) (A1:Option Addr) (n1 c1:Nat) (A2:Option Addr) (n2 c2:Nat) (A3:Option Addr) (n3 c3:Nat) (hC:ConfIn w c P A1 n1 c1 A2 n2 c2 A3 n3 c3) (hF:FitC c) (hn2:n2≤140737488355328) (hn3:n3≤5000)
  (hO:∀h∈c.hist,h.who.length≤250000∧h.rest.length≤5000) (hsum:(c.hist.map rowH).flatten.length≤4000) (hT:TabOk w):
  Calls Tryz.prog 15 #[.agg #[.slice A1 n1 c1, .slice A2 n2 c2, .slice A3 n3 c3]] w fun e w'=> e= .returned (.bool (rightC c))∧Hid (Below w.heap.size w w'):=by
 have HMQ:=Qh (show Row (w.alloc (.cells #[.slice A1 n1 c1, .slice A2 n2 c2, .slice A3 n3 c3] 28)) w.heap.size 28 [.slice A1 n1 c1, .slice A2 n2 c2, .slice A3 n3 c3]from Row.new _ _ _)
 have HB:=Qh (qac w (.cells #[.slice A1 n1 c1, .slice A2 n2 c2, .slice A3 n3 c3] 28))
 have HR:=Qh (fun W (q:Below w.heap.size w W)=> qaj rfl (qvy W c P A1 n1 c1 A2 n2 c2 A3 n3 c3 (hC.below q) hF hn2 hn3 hO hsum (hT.below q)))
 have HX:=Qh (show rightC c=decide (0 < (rowC c).length)from rfl)
 clear hC hF hO hsum hT
 generalize rightC c=R at*
 generalize rowC c=X at*
 go_enter Tryz.func15,Tryz.ntmps15
 go_upto_region 1 with fail
 generalize hW0:w.alloc (Obj.cells #[.slice A1 n1 c1, .slice A2 n2 c2, .slice A3 n3 c3] 28)=w0 at HMQ HB
 generalize hW:World.alloc _ _=W'
 obtain rfl:w0=W':=hW0.symm.trans hW
 clear hW hW0
 go_wp2_with ((with_reducible refine qas ?_ 28 (.tmp 1) ?_ w.heap.size 0 [.slice A1 n1 c1, .slice A2 n2 c2, .slice A3 n3 c3] #[.slice A1 n1 c1, .slice A2 n2 c2, .slice A3 n3 c3] ?_ _ ?_ Tryz.underlying28 ?_ ?_ ?_ ?_);rfl;rfl;go_must (rfl;exact qan HMQ.out;rfl;exact qah;rfl))
 refine (HR.out _ HB.out).mono ?_
 rintro e w2 ⟨A,k,rfl,H2⟩
 have HB2:=Qh (HB.out.trans (H2.out.2.2.mono HB.out.size))
 have HV2:=Qh H2.out.2.1
 clear HR HB H2 HMQ
 generalize X.length=xl at*
 clear HV2
 go_wp2_with fail
 go_ret
 exact ⟨by rw [HX.out];rfl,HB2⟩
theorem qxq (w:World) (c:Cfg) (P:List Pe) (A1:Option Addr) (n1 c1:Nat) (A2:Option Addr) (n2 c2:Nat) (A3:Option Addr) (n3 c3:Nat) (hC:ConfIn w c P A1 n1 c1 A2 n2 c2 A3 n3 c3) (hF:FitC c) (hn2:n2≤140737488355328) (hn3:n3≤5000)
  (hO:∀h∈c.hist,h.who.length≤250000∧h.rest.length≤5000) (hsum:(c.hist.map rowH).flatten.length≤4000) (hT:TabOk w) (hJ:JsEnv w) {t:List UInt8} (ht:Js.Row (rowC c) t):
  Calls Tryz.prog 13 #[.agg #[.slice A1 n1 c1, .slice A2 n2 c2, .slice A3 n3 c3]] w (PForm w t true):=by
 have HMQ:=Qh (show Row (w.alloc (.cells #[.slice A1 n1 c1, .slice A2 n2 c2, .slice A3 n3 c3] 28)) w.heap.size 28 [.slice A1 n1 c1, .slice A2 n2 c2, .slice A3 n3 c3]from Row.new _ _ _)
 have HB:=Qh (qac w (.cells #[.slice A1 n1 c1, .slice A2 n2 c2, .slice A3 n3 c3] 28))
 have HR:=Qh (fun W (q:Below w.heap.size w W)=> qaj rfl (qvy W c P A1 n1 c1 A2 n2 c2 A3 n3 c3 (hC.below q) hF hn2 hn3 hO hsum (hT.below q)))
 have HT:=Qh (fun W (q:Below w.heap.size w W)=> And.intro (hT.below q) (hJ.below q))
 have HS:=Qh (show Short 1048576 (rowC c)from qlg (by decide) hC.ids.dig hF.rest (fun h hm=> ⟨(hF.hist h hm).who,(hF.hist h hm).rest⟩))
 have HRT:=Qh ht
 clear hC hF hO hsum hT hJ ht
 generalize rowC c=X at*
 go_enter Tryz.func13,Tryz.ntmps13
 go_upto_region 1 with fail
 generalize hW0:w.alloc (Obj.cells #[.slice A1 n1 c1, .slice A2 n2 c2, .slice A3 n3 c3] 28)=w0 at HMQ HB
 generalize hW:World.alloc _ _=W'
 obtain rfl:w0=W':=hW0.symm.trans hW
 clear hW hW0
 go_wp2_with ((with_reducible refine qas ?_ 28 (.tmp 1) ?_ w.heap.size 0 [.slice A1 n1 c1, .slice A2 n2 c2, .slice A3 n3 c3] #[.slice A1 n1 c1, .slice A2 n2 c2, .slice A3 n3 c3] ?_ _ ?_ Tryz.underlying28 ?_ ?_ ?_ ?_);rfl;rfl;go_must (rfl;exact qan HMQ.out;rfl;exact qah;rfl))
 refine (HR.out _ HB.out).mono ?_
 rintro e w2 ⟨A,k,rfl,H2⟩
 have HB2:=Qh (HB.out.trans (H2.out.2.2.mono HB.out.size))
 have HV2:=Qh H2.out.2.1
 clear HR HB H2 HMQ
 go_wp2_with fail
 refine (qyd w2 A X.length k X t HV2.out HS.out (HT.out _ HB2.out).1 (HT.out _ HB2.out).2 HRT.out).mono ?_
 rintro e w3 ⟨val,rfl,H3⟩
 obtain ⟨A5,k5,rfl,hby,_⟩:=H3.out.1.bytes
 have HX:=Qh (And.intro hby (HB2.out.trans (H3.out.2.mono HB2.out.size)))
 clear HB2 H3 hby
 go_wp2_with fail
 go_ret2
 exact ⟨_,_,rfl,HX⟩
end Go.Proofs.YtgmangikcfakgaaGreatDoor
