import Derived.Test.YtgmangikcfakgaaGreatDoorPP42
import Derived.BigQuiet
namespace Go.Proofs.YtgmangikcfakgaaGreatDoor
open Go.RowKit Sh Jt Js Jo
set_option maxRecDepth 100000
namespace Jo
theorem right_noC {c:Cfg} (h:okC c=false):rightC c=false:=rightC_no (row_no14 h)
theorem right_allC {c:Cfg} (h:okC c=true):rightC c=decide (0 < (sortA (bodyC c)).length):=by
 unfold rightC rowC
 rw [if_pos h]
theorem okC_bad {c:Cfg} {h:Hist} (hm:h∈c.hist) (hb:okH h=false):okC c=false:=by
 cases hk:okC c with
 | false=> rfl
 | true=>
  have:=(ok_parts hk).2.2.2.2 h hm
  rw [hb]at this
  cases this
theorem okC_yes {c:Cfg} (h1:plainF c.rest rootK histK=true) (h2:c.ids.length≤60) (h3:c.hist.length≤200) (h4:0 < c.hist.length→layersN c.hist=c.ids.length) (h5:∀h∈c.hist,okH h=true):okC c=true:=by
 unfold okC
 rw [h1,decide_eq_true h2,decide_eq_true h3,decide_eq_true h4,List.all_eq_true.2 h5]
 rfl
theorem okC_no {c:Cfg} (h:plainF c.rest rootK histK=false∨60 < c.ids.length∨200 < c.hist.length∨(0 < c.hist.length∧layersN c.hist≠c.ids.length)):okC c=false:=by
 cases hk:okC c with
 | false=> rfl
 | true=>
  obtain ⟨a,b,d,e,_⟩:=ok_parts hk
  rcases h with h | h | h | h
  ·rw [a]at h;cases h
  ·omega
  ·omega
  ·exact absurd (e h.1) h.2
theorem okH_pos {h:Hist} (hk:okH h=true):validF h.who=true∧0 < h.rest.length:=by
 unfold okH at hk
 rw [Bool.and_eq_true]at hk
 obtain ⟨P,hP,_⟩:=plain_is hk.1
 exact ⟨hk.2,right_pos hP.right⟩
end Jo
set_option maxHeartbeats 20000000 in
theorem cf_rright (w:World) (c:Cfg) (P:List Pe) (A1:Option Addr) (n1 c1:Nat) (A2:Option Addr) (n2 c2:Nat) (A3:Option Addr) (n3 c3:Nat) (hC:ConfIn w c P A1 n1 c1 A2 n2 c2 A3 n3 c3) (hF:FitC c) (hn2:n2≤140737488355328) (hn3:n3≤5000)
  (hO:∀h∈c.hist,h.who.length≤250000∧h.rest.length≤5000) (hsum:(c.hist.map rowH).flatten.length≤4000):
  Calls Tryz.prog 16 #[.agg #[.slice A1 n1 c1, .slice A2 n2 c2, .slice A3 n3 c3]] w fun e w'=> e= .returned (.bool (rightC c))∧Hid (Below w.heap.size w w'):=by
 obtain ⟨R,hR⟩:∃R,R=rightC c:=⟨_,rfl⟩
 rw [←hR]
 have HNO:=Lib.hid (fun h=> show R=false from hR.trans (right_noC (okC_no (c:=c) h)))
 have HBAD:=Lib.hid (fun h (hm:h∈c.hist) (hb:okH h=false)=> show R=false from hR.trans (right_noC (okC_bad hm hb)))
 have HYES:=Lib.hid (fun (h:okC c=true)=> show R=decide (0 < (sortA (bodyC c)).length)from hR.trans (right_allC h))
 have hlen:=hC.hist.len
 have hlen1:=hC.ids.len
 have hlen3:=hC.rest.len
 have hh:=congrArg List.length hC.same
 unfold histsOf at hh
 rw [List.length_map]at hh
 have HC:=Lib.hid (fun W (q:Below w.heap.size w W)=> hC.below q)
 have HSM:=Lib.hid hC.same
 have HF:=Lib.hid hF
 have HO:=Lib.hid hO
 have HSU:=Lib.hid hsum
 have HPL:=Lib.hid (fun W (q:Below w.heap.size w W)=> cf_rplain W A3 n3 c3 c.rest (hC.below q).rest (by omega) (short_more hF.rest (by decide)) rootK histK)
 change Hid (∀W,_→Calls _ _ #[_, .string ⟨#[114,111,111,116,102,115]⟩, .string ⟨#[104,105,115,116,111,114,121]⟩] _ _)at HPL
 have HBX:=Lib.hid (show Row (w.alloc (.cells #[.slice A1 n1 c1, .slice A2 n2 c2, .slice A3 n3 c3] 28)) w.heap.size 28 [.slice A1 n1 c1, .slice A2 n2 c2, .slice A3 n3 c3]from Row.new _ _ _)
 have HB0:=Lib.hid (below_alloc w (.cells #[.slice A1 n1 c1, .slice A2 n2 c2, .slice A3 n3 c3] 28))
 clear hC hF hO hsum hR
 go_enter Tryz.func16,Tryz.ntmps16
 go_upto_region 1 with fail
 generalize hW0:w.alloc (Obj.cells #[.slice A1 n1 c1, .slice A2 n2 c2, .slice A3 n3 c3] 28)=w0 at HBX HB0
 generalize hW:World.alloc _ _=W'
 obtain rfl:w0=W':=hW0.symm.trans hW
 clear hW hW0
 have HBB:=Lib.hid (fun W (k:Below w0.heap.size w0 W)=> show Below w.heap.size w W from HB0.out.trans (k.mono HB0.out.size))
 have HKF:=Lib.hid (fun W (q:Below w0.heap.size w0 W)=> show W.cell? ⟨w.heap.size,2,none⟩=some (.slice A3 n3 c3)∧W.cell? ⟨w.heap.size,1,none⟩=some (.slice A2 n2 c2)∧W.cell? ⟨w.heap.size,0,none⟩=some (.slice A1 n1 c1)∧Row W w.heap.size 28 [.slice A1 n1 c1, .slice A2 n2 c2, .slice A3 n3 c3]from by
  have r:=HBX.out.below q HBX.out.lt
  exact ⟨r.cell (i:=2) rfl,r.cell (i:=1) rfl,r.cell (i:=0) rfl,r⟩)
 clear HBX HB0
 have HPX:=Lib.hid (HPL.out w0 (HBB.out w0 (Below.refl _ _)))
 obtain ⟨x2,x1,x0, -⟩:=HKF.out w0 (Below.refl _ _)
 clear HPL
 go_wp2_with fail
 refine HPX.out.mono ?_
 rintro e w2 ⟨rfl,K2⟩
 have B2:=Lib.hid (show Below w0.heap.size w0 w2 from K2.out)
 clear K2 HPX x2 x1 x0
 obtain ⟨x2,x1,x0, -⟩:=HKF.out w2 B2.out
 cases hp:plainF c.rest rootK histK with
 | false=>
  have HX:=Lib.hid (HNO.out (.inl hp))
  clear HNO HBAD HYES hp
  go_upto_region 2 with fail
  go_quiet (fail)
  go_wp2_with fail
  go_ret
  rw [HX.out]
  exact ⟨rfl,Lib.hid (HBB.out _ (below_drewN B2.out nq))⟩
 | true=>
  have HPP:=Lib.hid hp
  clear hp
  by_cases g60:60 < n1
  ·have HX:=Lib.hid (HNO.out (.inr (.inl (by omega))))
   have hg:decide ((60:Int) < (n1:Int))=true:=decide_eq_true (by omega)
   clear HNO HBAD HYES
   go_upto_region 2 with fail
   go_quiet (fail)
   go_wp2_with fail
   go_ret
   rw [HX.out]
   exact ⟨rfl,Lib.hid (HBB.out _ (below_drewN B2.out nq))⟩
  have hg:decide ((60:Int) < (n1:Int))=false:=decide_eq_false (by omega)
  by_cases g200:200 < n2
  ·have HX:=Lib.hid (HNO.out (.inr (.inr (.inl (by omega)))))
   have hg2:decide ((200:Int) < (n2:Int))=true:=decide_eq_true (by omega)
   clear HNO HBAD HYES
   go_upto_region 2 with fail
   go_quiet (fail)
   go_wp2_with fail
   go_ret
   rw [HX.out]
   exact ⟨rfl,Lib.hid (HBB.out _ (below_drewN B2.out nq))⟩
  have hg2:decide ((200:Int) < (n2:Int))=false:=decide_eq_false (by omega)
  by_cases g0:0 < n2
  case pos=>
   have hg3:decide ((0:Int) < (n2:Int))=true:=decide_eq_true (by omega)
   have HLQ:=Lib.hid (fun k=> show Calls Tryz.prog 18 #[.slice A2 n2 c2] (w2.drewN k) fun e w'=> e= .returned (.int .i64 ((layersN c.hist:Nat):Int))∧w'=w2.drewN k from
    (cf_rlayers (w2.drewN k) A2 n2 c2 P (HC.out _ (HBB.out _ (below_drewN B2.out k))).hist (by omega)).mono (fun e w' h=> ⟨by rw [h.1,HSM.out],h.2.symm⟩))
   obtain ⟨ly,hly⟩:∃ly,ly=layersN c.hist:=⟨_,rfl⟩
   rw [←hly]at HLQ
   by_cases gl:ly=n1
   case neg=>
    have HX:=Lib.hid (HNO.out (.inr (.inr (.inr ⟨by omega,by omega⟩))))
    have hb:((ly:Int) !=(n1:Int))=true:=bne_iff_ne.2 (fun e=> gl (by omega))
    clear HNO HBAD HYES hly
    go_upto_region 2 with fail
    go_quiet (first | (go_at_call 18;exact Calls.quiet_of_same (HLQ.out _)))
    go_wp2_with fail
    go_ret
    rw [HX.out]
    exact ⟨rfl,Lib.hid (HBB.out _ (below_drewN B2.out nq))⟩
   have hb:((ly:Int) !=(n1:Int))=false:=by rw [gl];exact bne_self_eq_false _
   have HLC:=Lib.hid (show 0 < c.hist.length→layersN c.hist=c.ids.length from fun _=> by omega)
   clear hly gl
   go_upto_region 2 with fail
   go_quiet (first | (go_at_call 18;exact Calls.quiet_of_same (HLQ.out _)))
   go_wp2_with fail
   have B3:=Lib.hid (below_drewN B2.out nq)
   clear HLQ hb B2 x2 x1 x0 HNO
   generalize w2.drewN nq=w3 at*
   go_loopg [4] n2 (fun g v4 wx=> ∃(j:Nat),v4= .int .i64 (j:Int)∧j+g=n2∧Hid (∀h∈histsOf (P.take j),okH h=true)∧Hid (Below w0.heap.size w0 wx))
   case atStart=> exact ⟨0,rfl,by omega,Lib.hid (fun h hm=> by cases hm),B3⟩
   case round=>
    clear B3
    obtain ⟨j,rfl,hjg,HA,HX⟩:=hrel
    obtain ⟨y2,y1,y0,yr⟩:=HKF.out wr HX.out
    have HYR:=Lib.hid yr
    clear yr
    cases gk with
    | zero=>
     obtain rfl:j=n2:=by omega
     rw [List.take_of_length_le (by omega),HSM.out]at HA
     have hok:okC c=true:=okC_yes HPP.out (by omega) (by omega) HLC.out HA.out
     have HRX:=Lib.hid (HYES.out hok)
     have HALL:=Lib.hid (own_any rfl (cf_rall wr c P A1 n1 c1 A2 j c2 A3 n3 c3 (HC.out wr (HBB.out wr HX.out)) HF.out (by omega) (by omega) hn3 (fun h hm=> ⟨(okH_pos (HA.out h hm)).1,(HO.out h hm).1,(HO.out h hm).2,(okH_pos (HA.out h hm)).2⟩) HSU.out))
     clear HYES HBAD HSU HO hok HA HC
     generalize sortA (bodyC c)=XX at*
     have hge:¬(j:Int) < (j:Int):=by omega
     go_wp2_with ((with_reducible refine load_all ?_ 28 (.tmp 1) ?_ w.heap.size 0 [.slice A1 n1 c1, .slice A2 j c2, .slice A3 n3 c3] #[.slice A1 n1 c1, .slice A2 j c2, .slice A3 n3 c3] ?_ _ ?_ Tryz.underlying28 ?_ ?_ ?_ ?_);rfl;rfl;go_must (rfl;exact rangeAt_row HYR.out;rfl;exact cf_sizeC;rfl))
     refine HALL.out.mono ?_
     rintro e w9 ⟨A9,k9,rfl,H9⟩
     have B9:=Lib.hid (HX.out.trans (H9.out.2.2.mono HX.out.size))
     clear HALL H9 HX HYR
     generalize XX.length=xl at*
     go_wp2_with fail
     go_ret
     refine ⟨?_,Lib.hid (HBB.out _ B9.out)⟩
     show Ending.returned (.bool (decide (0 < xl)))=_
     rw [HRX.out]
    | succ g=>
     have hj:j < P.length:=by omega
     have HCW:=Lib.hid (HC.out wr (HBB.out wr HX.out))
     obtain ⟨b,o,rfl,hb9,_⟩:=HCW.out.hist.at_ (by omega)
     have hpm:(P[j]).hist∈c.hist:=by
      rw [←HSM.out]
      exact List.mem_map.2 ⟨_,List.getElem_mem hj,rfl⟩
     obtain ⟨o2,o3⟩:=HO.out _ hpm
     have HBD:=Lib.hid (show okH (P[j]).hist=false→R=false from HBAD.out _ hpm)
     have HCL:=Lib.hid (fun W (q:Below w0.heap.size w0 W)=> (HC.out W (HBB.out W q)).hist.cells hj)
     have HPL:=Lib.hid (cf_rplain wr (P[j]).rest.at_ _ (P[j]).rest.cap (P[j]).rest.row (HCW.out.hist.ins _ (List.getElem_mem hj)) (Nat.le_trans o3 (by decide)) (short_more (HF.out.hist _ hpm).rest (by decide)) byK emptyK)
     have HNX:=Lib.hid (hists_next P hj)
     obtain ⟨z0, -,z2⟩:=HCL.out wr HX.out
     have hokh:okH (P[j]).hist=(plainF (P[j]).rest.row byK emptyK && validF (P[j]).who):=rfl
     have HOKH:=Lib.hid hokh
     have o2':(P[j]).who.length≤250000:=o2
     clear HCW hpm o2 o3 hokh
     generalize P[j]=pe at*
     obtain ⟨who,em,⟨PA,pc,pr⟩⟩:=pe
     dsimp only at HPL HOKH o2' HCL z0 z2 HBD HNX
     change wr.cell? _=some (.slice PA pr.length pc)at z2
     change Hid (Calls _ _ #[_, .string ⟨#[99,114,101,97,116,101,100,95,98,121]⟩, .string ⟨#[101,109,112,116,121,95,108,97,121,101,114]⟩] _ _)at HPL
     have hjn:(j:Int) < (n2:Int):=by omega
     have hjp:(0:Int)≤(j:Int):=by omega
     go_wp2_with fail
     refine HPL.out.mono ?_
     rintro e w5 ⟨rfl,K5⟩
     have B5:=Lib.hid (HX.out.trans (K5.out.mono HX.out.size))
     clear HPL K5 HX z0 z2 y0 y1 y2 HYR
     obtain ⟨y2,y1,y0, -⟩:=HKF.out w5 B5.out
     obtain ⟨z0, -, -⟩:=HCL.out w5 B5.out
     change w5.cell? _=some (.string (sb who))at z0
     go_wp2_with fail
     refine (jt_rvalid w5 who (by omega)).mono ?_
     rintro e w6 ⟨rfl,K6⟩
     have B6:=Lib.hid (B5.out.trans (K6.mono B5.out.size))
     clear B5 K6 z0 y0 y1 y2 HCL
     have HOK2:Hid (okH (Pe.hist ⟨who,em,⟨PA,pc,pr⟩⟩)=(plainF pr byK emptyK && validF who)):=HOKH
     clear HOKH
     generalize okH (Pe.hist ⟨who,em,⟨PA,pc,pr⟩⟩)=ok at*
     cases hpl:plainF pr byK emptyK with
     | false=>
      have HRX:=Lib.hid (HBD.out (by rw [HOK2.out,hpl];rfl))
      clear HBD HBAD HYES HOK2 hpl
      generalize validF who=vv9
      go_wp2_with fail
      go_ret
      rw [HRX.out]
      exact ⟨rfl,Lib.hid (HBB.out _ B6.out)⟩
     | true=>
      cases hvl:validF who with
      | false=>
       have HRX:=Lib.hid (HBD.out (by rw [HOK2.out,hpl,hvl];rfl))
       clear HBD HBAD HYES HOK2 hpl hvl
       go_wp2_with fail
       go_ret
       rw [HRX.out]
       exact ⟨rfl,Lib.hid (HBB.out _ B6.out)⟩
      | true=>
       have HAN:=Lib.hid (show ∀h∈histsOf (P.take (j+1)),okH h=true from fun h hm=> by
        rw [HNX.out]at hm
        rcases List.mem_append.1 hm with hm | hm
        ·exact HA.out h hm
        ·rw [List.mem_singleton.1 hm]
         show (plainF pr byK emptyK && validF who)=true
         rw [hpl,hvl]
         rfl)
       clear HBD HOK2 hpl hvl HNX HA
       go_wp2_with fail
       go_roundg g
       case measure=> omega
       case rel=> exact ⟨j+1,by go_num,by omega,HAN,B6⟩
  have hg3:decide ((0:Int) < (n2:Int))=false:=decide_eq_false (by omega)
  have HLC:=Lib.hid (show 0 < c.hist.length→layersN c.hist=c.ids.length from fun h=> by omega)
  go_upto_region 2 with fail
  go_quiet (fail)
  go_wp2_with fail
  have B3:=Lib.hid (below_drewN B2.out nq)
  clear B2 x2 x1 x0 HNO
  generalize w2.drewN nq=w3 at*
  go_loopg [4] n2 (fun g v4 wx=> ∃(j:Nat),v4= .int .i64 (j:Int)∧j+g=n2∧Hid (∀h∈histsOf (P.take j),okH h=true)∧Hid (Below w0.heap.size w0 wx))
  case atStart=> exact ⟨0,rfl,by omega,Lib.hid (fun h hm=> by cases hm),B3⟩
  case round=>
   clear B3
   obtain ⟨j,rfl,hjg,HA,HX⟩:=hrel
   obtain ⟨y2,y1,y0,yr⟩:=HKF.out wr HX.out
   have HYR:=Lib.hid yr
   clear yr
   cases gk with
   | zero=>
    obtain rfl:j=n2:=by omega
    rw [List.take_of_length_le (by omega),HSM.out]at HA
    have hok:okC c=true:=okC_yes HPP.out (by omega) (by omega) HLC.out HA.out
    have HRX:=Lib.hid (HYES.out hok)
    have HALL:=Lib.hid (own_any rfl (cf_rall wr c P A1 n1 c1 A2 j c2 A3 n3 c3 (HC.out wr (HBB.out wr HX.out)) HF.out (by omega) (by omega) hn3 (fun h hm=> ⟨(okH_pos (HA.out h hm)).1,(HO.out h hm).1,(HO.out h hm).2,(okH_pos (HA.out h hm)).2⟩) HSU.out))
    clear HYES HBAD HSU HO hok HA HC
    generalize sortA (bodyC c)=XX at*
    have hge:¬(j:Int) < (j:Int):=by omega
    go_wp2_with ((with_reducible refine load_all ?_ 28 (.tmp 1) ?_ w.heap.size 0 [.slice A1 n1 c1, .slice A2 j c2, .slice A3 n3 c3] #[.slice A1 n1 c1, .slice A2 j c2, .slice A3 n3 c3] ?_ _ ?_ Tryz.underlying28 ?_ ?_ ?_ ?_);rfl;rfl;go_must (rfl;exact rangeAt_row HYR.out;rfl;exact cf_sizeC;rfl))
    refine HALL.out.mono ?_
    rintro e w9 ⟨A9,k9,rfl,H9⟩
    have B9:=Lib.hid (HX.out.trans (H9.out.2.2.mono HX.out.size))
    clear HALL H9 HX HYR
    generalize XX.length=xl at*
    go_wp2_with fail
    go_ret
    refine ⟨?_,Lib.hid (HBB.out _ B9.out)⟩
    show Ending.returned (.bool (decide (0 < xl)))=_
    rw [HRX.out]
   | succ g=> omega
end Go.Proofs.YtgmangikcfakgaaGreatDoor
