import Derived.Test.YtgmangikcfakgaaGreatDoorPA35
set_option maxRecDepth 100000
set_option maxHeartbeats 40000000
namespace Go.Proofs.YtgmangikcfakgaaGreatDoor
open Go
namespace Jo
open Jt Js
def osK:List UInt8:=[111,115]
def linuxK:List UInt8:=[108,105,110,117,120]
def P14:List (List V):=[[⟨4,osK,linuxK,0⟩]]
def R14:List V:=[⟨6,[],[],1⟩,⟨4,osK,linuxK,0⟩]
theorem q0w:validF osK=true:=qax _ (by decide)
theorem qf1:validF linuxK=true:=qax _ (by decide)
theorem qpy {d:Nat} (hd:d < 50):One d true ⟨4,osK,linuxK,0⟩ [] []:=qbp hd (fun h=> by cases h) q0w qf1
theorem right14:rightPF R14=true:=qbt (v:=⟨6,[],[],1⟩) (P:=P14) (qbw 1) (.cons (qpy (by decide)) .nil) rfl (fun _=> by decide) (by decide)
theorem is14:ObjIs R14 P14:=ObjIs.of (P:=P14) (n:=1) rfl right14 (qb2 (.cons (qpy (d:=1) (by decide)) .nil))
theorem obj14:objA [osK] [[⟨4,[],linuxK,0⟩]]=R14:=by
 unfold objA fineF
 rw [if_pos ⟨by rw [List.all_cons,show rightPF [⟨4,[],linuxK,0⟩]=true from qhs (qbp (by decide) (fun _=> rfl) qa8 qf1) (by decide)];rfl,rfl⟩]
 exact if_pos right14
theorem plain14:plainF R14 rootK histK=true:=qgn is14 (by decide) (by decide) rfl
def d14:List UInt8:=1::List.replicate 31 0
def e14:Hist:=⟨[120],false,none0⟩
def c14:Cfg:=⟨[d14],[e14,bare true],R14⟩
theorem qin:validF [120]=true:=quy (by decide)
theorem qgh:rowH e14=[⟨6,[],[],1⟩,⟨4,byK,[120],0⟩]:=by
 have:=ObjIs.add qd0 (key:=byK) (v:=⟨4,[],[120],0⟩) (l:=[]) (qbf (qbp (by decide) (fun _=> rfl) qaw qin) (by decide)) (qxh qin (by decide)) (fun h=> by cases h) (by decide)
 exact this.1.eq
theorem qf6:One 2 false ⟨6,[],[],1⟩ [⟨4,byK,[120],0⟩] (item true ⟨4,byK,[120],0⟩ []):=
 ⟨qbw 1,by decide,[byK],(qxh qin (d:=3) (by decide)).rows,rfl,fun _=> by decide⟩
theorem qgf:rowH (bare true)=[⟨6,[],[],1⟩,⟨1,emptyK,[],0⟩]:=qyi true
theorem ql8:One 2 false ⟨6,[],[],1⟩ [⟨1,emptyK,[],0⟩] (item true ⟨1,emptyK,[],0⟩ []):=
 ⟨qbw 1,by decide,[emptyK],(qkf qf4 (d:=3) (by decide) (o:=true) (fun h=> by cases h)).rows,rfl,fun _=> by decide⟩
theorem ok14:okC c14=true:=by
 unfold okC
 rw [show plainF c14.rest rootK histK=true from plain14]
 have h1:okH e14=true:=by
  unfold okH;rw [show e14.rest=none0 from rfl,show e14.who=[120]from rfl,qk6,qin];rfl
 show (true && true && true && decide (0 < c14.hist.length→layersN c14.hist=c14.ids.length) && (okH e14 && (okH (bare true) && true)))=true
 rw [h1,q2k]
 rfl
theorem body14:rightPF (bodyC c14)=true:=by
 refine q2d ok14 (fun h hm=> ?_) ⟨[[],[]], ?_⟩ ?_
 ·rcases List.mem_cons.1 hm with rfl | hm
  ·rw [qgh]
   exact qbf (qdv qf6) (by decide)
  ·rw [List.mem_singleton.1 hm,qgf]
   exact qbf (qdv ql8) (by decide)
 ·show Parts 2 false _ [rowH e14,rowH (bare true)]
  rw [qgh,qgf];exact .cons qf6 (.cons ql8 .nil)
 ·show R14.length+(3+[d14].length)+([rowH e14,rowH (bare true)].flatten.length+1)≤5000
  rw [qgh,qgf];decide
theorem dig14:DigC c14:=fun d hd=> by
 rw [List.mem_singleton.1 hd]
 rfl
theorem sh14:Short 12000 R14:=by
 unfold R14 Short
 decide
theorem fit14:FitC c14:=by
 refine ⟨qar sh14 (by decide),show 2≤250000 by decide,fun h hm=> ?_⟩
 rcases List.mem_cons.1 hm with rfl | hm
 ·exact ⟨show 1≤1048576 by decide,qi1,show 1≤250000 by decide⟩
 ·rw [List.mem_singleton.1 hm]
  exact ⟨Nat.zero_le _,qi1,show 1≤250000 by decide⟩
theorem prints14:∃t,PrintsC c14 t:=by
 refine qqd (qwk ok14 body14).2 dig14 sh14 fun h hm=> ?_
 rcases List.mem_cons.1 hm with rfl | hm
 ·exact ⟨show 1≤12000 by decide,qi1⟩
 ·rw [List.mem_singleton.1 hm]
  exact ⟨Nat.zero_le _,qi1⟩
def heads14:List UInt8:=[123,34,104,105,115,116,111,114,121,34,58,91,123,34,99,114,101,97,116,101,100,95,98,121,34,58,34,120,34,125,44,123,34,101,109,112,116]
theorem parts14:partsC c14=[[⟨6,rootK,[],2⟩,⟨4,typeK,layersK,0⟩,⟨5,diffK,[],1⟩,⟨4,[],Dg.text d14,0⟩],[⟨5,histK,[],2⟩,⟨6,[],[],1⟩,⟨4,byK,[120],0⟩,⟨6,[],[],1⟩,⟨1,emptyK,[],0⟩]]:=by
 unfold partsC
 rw [if_neg (show ¬c14.hist=[]from List.cons_ne_nil _ _)]
 show [named rootK (rootV [d14])]++[named histK (listF [rowH e14,rowH (bare true)])]=_
 rw [qgh,qgf]
 rfl
theorem row14:rowC c14=[⟨6,[],[],3⟩,⟨5,histK,[],2⟩,⟨6,[],[],1⟩,⟨4,byK,[120],0⟩,⟨6,[],[],1⟩,⟨1,emptyK,[],0⟩,⟨4,osK,linuxK,0⟩,⟨6,rootK,[],2⟩,⟨5,diffK,[],1⟩,⟨4,[],Dg.text d14,0⟩,⟨4,typeK,layersK,0⟩]:=by
 obtain ⟨P,hC⟩:=qlo ok14 body14
 have hP:P=P14:=qd6 P P14 hC.rest.ends is14.ends (by
  have h1:=hC.rest.eq
  have h2:=is14.eq
  rw [show c14.rest=R14 from rfl,h2]at h1
  simp only [List.cons.injEq,V.mk.injEq,true_and]at h1
  omega) (by
  have h1:=hC.rest.eq
  have h2:=is14.eq
  rw [show c14.rest=R14 from rfl,h2]at h1
  exact (List.cons.inj h1).2.symm)
 rw [hC.row,hC.obj.eq,hP,parts14]
 generalize Dg.text d14=D
 rfl
theorem qtf {t L:List UInt8} {n:Nat} (h:t.take n=L) (hl:L.length=n):n≤t.length:=by
 have:=congrArg List.length h
 rw [List.length_take]at this
 omega
theorem small14 {t:List UInt8} (h:Js.Row (rowC c14) t):t.take 37=heads14∧40≤t.length:=by
 rw [row14]at h
 have hH:One 1 true ⟨5,histK,[],2⟩ [⟨6,[],[],1⟩,⟨4,byK,[120],0⟩,⟨6,[],[],1⟩,⟨1,emptyK,[],0⟩] (item false ⟨6,[],[],1⟩ (item true ⟨4,byK,[120],0⟩ [])++44::item false ⟨6,[],[],1⟩ (item true ⟨1,emptyK,[],0⟩ [])):=by
  obtain ⟨k1,a1,a2,a3⟩:=qf6.kids
  exact ⟨⟨fun h=> (by cases h),qeo, .inr (.inr (.inr ⟨.inl rfl,rfl,by decide⟩))⟩,by decide,[[],[]],Rows.more qf6.own qf6.deep a1 a2 a3 ql8.rows,rfl,fun e=> by cases e⟩
 obtain ⟨tr,hR⟩:∃tr,One 1 true ⟨6,rootK,[],2⟩ [⟨5,diffK,[],1⟩,⟨4,[],Dg.text d14,0⟩,⟨4,typeK,layersK,0⟩] tr:=by
  obtain ⟨t1,o1⟩:=qe8 (d:=2) (o:=true) (key:=diffK) (n:=1) (P:=[[⟨4,[],Dg.text d14,0⟩]]) (ks:=[[]]) (by decide) (fun h=> by cases h) qgw (.cons (qbp (by decide) (fun _=> rfl) qaw (qes d14)) .nil) rfl
  obtain ⟨k1,a1,a2,a3⟩:=o1.kids
  have o2:One 2 true ⟨4,typeK,layersK,0⟩ [] []:=qbp (by decide) (fun h=> by cases h) qg5 (qax _ (by decide))
  exact ⟨_,⟨(fun h=> by cases h),qeu, .inr (.inr (.inr ⟨.inr rfl,rfl,by decide⟩))⟩,by decide,[diffK,typeK],Rows.more o1.own o1.deep a1 a2 a3 o2.rows,rfl,fun _=> by decide⟩
 obtain ⟨k1,a1,a2,a3⟩:=hH.kids
 have hO:=qpy (d:=1) (by decide)
 obtain ⟨k2,b1,b2,b3⟩:=hO.kids
 have hr:=Rows.one (qbw 3) (d:=0) (by decide) (Rows.more hH.own hH.deep a1 a2 a3 (Rows.more hO.own hO.deep b1 b2 b3 hR.rows)) rfl (fun _=> by decide)
 obtain ⟨_,_,e⟩:=qpr h.2 _ _ _ _ [] [] hr rfl rfl
 obtain ⟨X,hX⟩:∃X,t=123::((item true ⟨5,histK,[],2⟩ (item false ⟨6,[],[],1⟩ (item true ⟨4,byK,[120],0⟩ [])++44::item false ⟨6,[],[],1⟩ (item true ⟨1,emptyK,[],0⟩ []))++44::X)++[125]):=⟨_,e⟩
 rw [hX,qcq (k:=histK) (by decide) rfl,qcq (k:=byK) (by decide) rfl,qcq (k:=emptyK) (by decide) rfl]
 rw [show body ⟨4,byK,[120],0⟩ []=quoteF [120]from rfl,qfj (by decide)]
 refine ⟨rfl, ?_⟩
 exact Nat.le_trans (show 40≤41 by decide) (qtf (n:=41) (L:=[123,34,104,105,115,116,111,114,121,34,58,91,123,34,99,114,101,97,116,101,100,95,98,121,34,58,34,120,34,125,44,123,34,101,109,112,116,121,95,108,97]) rfl rfl)
def y1:List UInt8:=[123,34,114,111,111,116,102,115,34,58,123,34,116,121,112,101,34,58,34,108,97,121,101,114,115,34,44,34,100,105,102,102,95,105,100,115,34,58,91,93,125,125]
def y2:List UInt8:=[123,34,114,111,111,116,102,115,34,58,123,34,116,121,112,101,34,58,34,108,97,121,101,114,115,34,44,34,100,105,102,102,95,105,100,115,34,58,91,93,125,44,34,104,105,115,116,111,114,121,34,58,91,123,125,93,125]
def q1:List V:=[⟨6,rootK,[],2⟩,⟨4,typeK,layersK,0⟩,⟨5,diffK,[],0⟩]
def q2:List V:=[⟨5,histK,[],1⟩,⟨6,[],[],0⟩]
theorem qef:One 1 true ⟨6,rootK,[],2⟩ [⟨4,typeK,layersK,0⟩,⟨5,diffK,[],0⟩] (item true ⟨4,typeK,layersK,0⟩ []++44::item true ⟨5,diffK,[],0⟩ []):=by
 have o1:One 2 true ⟨4,typeK,layersK,0⟩ [] []:=qbp (by decide) (fun h=> by cases h) qg5 (qax _ (by decide))
 have o2:One 2 true ⟨5,diffK,[],0⟩ [] []:=⟨⟨(fun h=> by cases h),qgw, .inr (.inr (.inr ⟨.inl rfl,rfl,by decide⟩))⟩,by decide,[], .nil _ _,rfl,fun e=> by cases e⟩
 obtain ⟨k1,a1,a2,a3⟩:=o1.kids
 exact ⟨⟨(fun h=> by cases h),qeu, .inr (.inr (.inr ⟨.inr rfl,rfl,by decide⟩))⟩,by decide,[typeK,diffK],Rows.more o1.own o1.deep a1 a2 a3 o2.rows,rfl,fun _=> by decide⟩
theorem qsq:item true ⟨6,rootK,[],2⟩ (item true ⟨4,typeK,layersK,0⟩ []++44::item true ⟨5,diffK,[],0⟩ [])=[34,114,111,111,116,102,115,34,58,123,34,116,121,112,101,34,58,34,108,97,121,101,114,115,34,44,34,100,105,102,102,95,105,100,115,34,58,91,93,125]:=by
 rw [qcq (k:=rootK) (by decide) rfl,qcq (k:=typeK) (by decide) rfl,qcq (k:=diffK) (by decide) rfl,show body ⟨4,typeK,layersK,0⟩ []=quoteF layersK from rfl,qfj (by decide)]
 rfl
theorem qqn:One 1 true ⟨5,histK,[],1⟩ [⟨6,[],[],0⟩] (item false ⟨6,[],[],0⟩ []):=
 ⟨⟨(fun h=> by cases h),qeo, .inr (.inr (.inr ⟨.inl rfl,rfl,by decide⟩))⟩,by decide,[[]],(show One 2 false ⟨6,[],[],0⟩ [] []from ⟨qbw 0,by decide,[], .nil _ _,rfl,fun _=> List.nodup_nil⟩).rows,rfl,fun e=> by cases e⟩
theorem qz3:parseF y1= .ok 1 (⟨6,[],[],1⟩::q1) []:=by
 have hr:Js.Row (⟨6,[],[],1⟩::q1) y1:=by
  refine ⟨by decide, ?_⟩
  have:=Rows.one (qbw 1) (d:=0) (by decide) qef.rows rfl (fun _=> by decide)
  rw [qsq]at this
  exact this
 exact qgy hr
theorem qzn:parseF y2= .ok 1 (⟨6,[],[],2⟩::(q1++q2)) []:=by
 have hr:Js.Row (⟨6,[],[],2⟩::(q1++q2)) y2:=by
  refine ⟨by decide, ?_⟩
  obtain ⟨k1,a1,a2,a3⟩:=qef.kids
  have:=Rows.one (qbw 2) (d:=0) (by decide) (Rows.more qef.own qef.deep a1 a2 a3 qqn.rows) rfl (fun _=> by decide)
  have this:Js.Rows 0 false [[]] (⟨6,[],[],2⟩::(q1++q2)) (item false ⟨6,[],[],2⟩ (item true ⟨6,rootK,[],2⟩ (item true ⟨4,typeK,layersK,0⟩ []++44::item true ⟨5,diffK,[],0⟩ [])++44::item true ⟨5,histK,[],1⟩ (item false ⟨6,[],[],0⟩ []))):=this
  rw [qsq,qcq (k:=histK) (by decide) rfl]at this
  exact this
 exact qgy hr
theorem ids0:idsF (rootV [])=some []:=by
 have hO:=qsb (ids:=[]) (by decide)
 have h1:memF (rootV []) typeK 4=some layersK:=by
  unfold memF;rw [ObjIs.key hO];rfl
 unfold idsF
 rw [if_pos ⟨rfl,h1⟩,ObjIs.key hO]
 rfl
theorem is_y1:ObjIs (⟨6,[],[],1⟩::q1) [q1]:=ObjIs.of (P:=[q1]) (n:=1) rfl (qbt (v:=⟨6,[],[],1⟩) (P:=[q1]) (qbw 1) (.cons qef .nil) rfl (fun _=> by decide) (by decide)) (qb2 (.cons qef .nil))
theorem is_y2:ObjIs (⟨6,[],[],2⟩::(q1++q2)) [q1,q2]:=ObjIs.of (P:=[q1,q2]) (n:=2) rfl (qbt (v:=⟨6,[],[],2⟩) (P:=[q1,q2]) (qbw 2) (.cons qef (.cons qqn .nil)) rfl (fun _=> by decide) (by decide)) (qb2 (.cons qef (.cons qqn .nil)))
theorem q1c:∃r,parseC y1= .ok ⟨[],[],r⟩:=by
 unfold parseC
 rw [qz3]
 have h1:ofKey (⟨6,[],[],1⟩::q1) rootK=rootV []:=by rw [ObjIs.key is_y1];rfl
 have h2:ofKey (⟨6,[],[],1⟩::q1) histK=[]:=by rw [ObjIs.key is_y1];rfl
 refine ⟨srt (dropA (dropA (⟨6,[],[],1⟩::q1) rootK) histK), ?_⟩
 show confF (⟨6,[],[],1⟩::q1)=_
 unfold confF histF
 rw [h1,ids0,h2,if_pos rfl]
 rfl
theorem q2s:parseC y2= .err 3:=by
 unfold parseC
 rw [qzn]
 have h1:ofKey (⟨6,[],[],2⟩::(q1++q2)) rootK=rootV []:=by rw [ObjIs.key is_y2];rfl
 have h2:ofKey (⟨6,[],[],2⟩::(q1++q2)) histK=[⟨5,[],[],1⟩,⟨6,[],[],0⟩]:=by rw [ObjIs.key is_y2];rfl
 have h3:∃h:Hist,h.empty=false∧entryF none0=some h:=by
  refine ⟨_, ?_,qct qgq rfl (fun p hp hg=> ?_) (fun p hp hg=> ?_)⟩
  ·exact qkt ((qce qd0 _).2 fun h=> by cases h)
  ·rw [(qce qd0 _).2 fun h=> by cases h]at hg
   cases hg
  ·rw [(qce qd0 _).2 fun h=> by cases h]at hg
   cases hg
 obtain ⟨h,he,h3⟩:=h3
 have h4:histF (⟨6,[],[],2⟩::(q1++q2))=some [h]:=by
  unfold histF;rw [h2,if_neg (List.cons_ne_nil _ _)];have hp:partsL [⟨5,[],[],1⟩,⟨6,[],[],0⟩]=[none0]:=rfl
  unfold listO;rw [if_pos (show kindOf [⟨5,[],[],1⟩,⟨6,[],[],0⟩]=5 from rfl),hp,allO,h3];rfl
 show confF (⟨6,[],[],2⟩::(q1++q2))=_
 unfold confF
 rw [h1,ids0,h4]
 show (if 60 < 0∨200 < 1 then OutC.err 2 else if 0 < 1∧layersN [h]≠0 then OutC.err 3 else _)=_
 have hn:layersN [h]≠0:=by
  unfold layersN;rw [if_neg (by rw [he];exact fun e=> by cases e)]
  exact Nat.succ_ne_zero _
 rw [if_neg (by decide),if_pos ⟨by decide,hn⟩]
theorem qs0:parseC [123,125]= .err 3:=by
 have h:parseF [123,125]= .ok 1 [⟨6,[],[],0⟩] []:=rfl
 unfold parseC
 rw [h]
 show confF none0= .err 3
 unfold confF
 rw [qbh ((qce qd0 rootK).2 fun h=> by cases h)]
 rfl
theorem off14:rowC ⟨[],c14.hist,R14⟩=[]:=by
 refine qp4 ?_
 unfold okC
 rw [show decide (0 < c14.hist.length→layersN c14.hist=([]:List (List UInt8)).length)=false from rfl,Bool.and_false]
 rfl
theorem layers14:layersN c14.hist=1:=rfl
end Jo
end Go.Proofs.YtgmangikcfakgaaGreatDoor
namespace Go.Proofs.YtgmangikcfakgaaGreatDoor
open Go.RowKit Sh Jt Js Jo
theorem qv1 (w:World) (A:Option Addr) (n c:Nat) (E:Option Addr) (d:Nat) (P P2:List Pe) (hP:HistsAt w A n c P) (hQ:HistsAt w E n d P2) (hs:histsOf P=histsOf P2) (hn:n≤140737488355328) (hl:∀p∈P,p.rest.row.length≤140737488351232):
  Calls Tryz.prog 41 #[.slice A n c, .slice E n d] w fun e w'=> e= .returned (.bool true)∧∃m,w'=w.drewN m:=by
 have hlen:=hP.len
 have hlen2:=hQ.len
 have HP:=Qh (fun k=> show HistsAt (w.drewN k) A n c P from hP.below (qaa (Below.refl _ _) k))
 have HQ:=Qh (fun k=> show HistsAt (w.drewN k) E n d P2 from hQ.below (qaa (Below.refl _ _) k))
 have HEQ:=Qh (fun j (h1:j < P.length) (h2:j < P2.length)=> show P[j].hist=P2[j].hist from by
  have:=congrArg (fun l=> l[j]?) hs
  simp only [histsOf,List.getElem?_map,List.getElem?_eq_getElem h1,List.getElem?_eq_getElem h2,Option.map_some,Option.some.injEq]at this
  exact this)
 have HL:=Qh hl
 have HP0:=Qh hP
 have HQ0:=Qh hQ
 clear hP hQ hs hl
 go_enter Tryz.func41,Tryz.ntmps41
 go_wp2_with fail
 go_loopg [5] n (fun g v5 wx=> ∃j p:Nat,v5= .int .i64 (j:Int)∧j+g=n∧wx=w.drewN p)
 case atStart=> exact ⟨0,0,rfl,by omega,rfl⟩
 case round=>
  obtain ⟨j,p,rfl,hjg,rfl⟩:=hrel
  cases gk with
  | zero=>
   obtain rfl:j=n:=by omega
   have hge:¬(j:Int) < (j:Int):=by omega
   go_wp2_with fail;go_ret;exact ⟨rfl,p,rfl⟩
  | succ g=>
   have h1:j < P.length:=by omega
   have h2:j < P2.length:=by omega
   have HPW:=HP0.out
   have HQW:=HQ0.out
   obtain ⟨b,o,rfl,hb,_⟩:=HPW.at_ (by omega)
   obtain ⟨b2,o2,rfl,hb2,_⟩:=HQW.at_ (by omega)
   obtain ⟨x0,x1,x2⟩:=HPW.cells h1
   obtain ⟨y0,y1,y2⟩:=HQW.cells h2
   have he:=HEQ.out j h1 h2
   have hv1:=fun k=> (HP.out k).ins _ (List.getElem_mem h1)
   have hv2:=fun k=> (HQ.out k).ins _ (List.getElem_mem h2)
   have hll:=HL.out _ (List.getElem_mem h1)
   generalize P[j]=pe at*;generalize P2[j]=pf at*;obtain ⟨who,em,⟨PA,pc,pr⟩⟩:=pe
   obtain ⟨who2,em2,⟨PA2,pc2,pr2⟩⟩:=pf
   have he:Hist.mk who em pr=Hist.mk who2 em2 pr2:=he
   obtain ⟨rfl,rfl,rfl⟩:who=who2∧em=em2∧pr=pr2:=by
    simp only [Hist.mk.injEq]at he
    exact he
   change World.cell? _ _=some (.slice PA pr.length pc)at x2
   change World.cell? _ _=some (.slice PA2 pr.length pc2)at y2
   change World.cell? _ _=some (.string (sb who))at x0 y0
   change World.cell? _ _=some (.bool em)at x1 y1
   have HSM:=Qh (fun k=> show Calls Tryz.prog 23 #[.slice PA pr.length pc, .slice PA2 pr.length pc2] (w.drewN (p+k)) fun e w'=> e= .returned (.bool true)∧∃m,w'=w.drewN (p+m)from
    (qsw (w.drewN (p+k)) PA PA2 pr.length pc pr.length pc2 pr pr (hv1 _) (hv2 _) hll hll).mono (fun e w' h=> ⟨by rw [h.1,decide_eq_true rfl],by
     obtain ⟨m,hm⟩:=h.2
     exact ⟨k+m,by rw [hm,World.drewN_drewN,Nat.add_assoc]⟩⟩))
   clear HPW HQW hv1 hv2 he hll h1 h2;generalize sb who=S at*;generalize pr.length=pl at*;have hjn:(j:Int) < (n:Int):=by omega
   have hjp:(0:Int)≤(j:Int):=by omega
   go_upto_region 6 with fail;go_quiet (first | (go_at_call 23;exact HSM.out _))
   rw [World.drewN_drewN];go_wp2_with fail;go_roundg g
   case measure=> omega
   case rel=> exact ⟨j+1,p+nq,by go_num,by omega,rfl⟩
theorem quh:∀(g:List UInt8),g.length=32→∀W:World,(Op.equalIn 10000 52 (.agg (g.map v8).toArray) (.agg (g.map v8).toArray)).run Tryz.prog W= .ok true W:=by
 intro g hg W
 have fa:(Value.agg (g.map v8).toArray).formed Tryz.prog 52=true:=by
  match g,hg with
  | [x0,x1,x2,x3,x4,x5,x6,x7,x8,x9,x10,x11,x12,x13,x14,x15,x16,x17,x18,x19,x20,x21,x22,x23,x24,x25,x26,x27,x28,x29,x30,x31],_=> exact formed32 _ _ _ _ _ _ _ _ _ _ _ _ _ _ _ _ _ _ _ _ _ _ _ _ _ _ _ _ _ _ _ _
 obtain ⟨r,hr,he⟩:=run_equalIn_deep (P:=Tryz.prog) 9997 3 52 key32 W 5 5 (.agg (g.map v8).toArray) (.agg (g.map v8).toArray) (litsOf g) (litsOf g) fa fa (qk7 g hg) (qk7 g hg)
 refine Eq.trans hr ?_
 rw [he.2 rfl]
theorem qzx (w:World) (A:Option Addr) (n c:Nat) (E:Option Addr) (d:Nat) (G:List (List UInt8)) (ha:GsAt w A n c G) (hb:GsAt w E n d G) (hn:n≤140737488355328):
  Calls Tryz.prog 40 #[.slice A n c, .slice E n d] w fun e w'=> e= .returned (.bool true)∧Hid (Kept w w' (fun _=> False)):=by
 have hlen:=ha.len
 have HA:=Qh ha
 have HB:=Qh hb
 clear ha hb
 go_enter Tryz.func40,Tryz.ntmps40
 go_wp2
 go_loopg [5] n (fun gg s5 wr=> ∃(k:Nat),s5= .int .i64 k∧k≤n∧gg=n - k∧Hid (Kept w wr (fun _=> False)))
 case atStart=> exact ⟨0,rfl,Nat.zero_le _,rfl,Kept.refl _ _⟩
 case round=>
  obtain ⟨k,rfl,hk,hg,KW⟩:=hrel
  by_cases hlt:k < n
  ·have hkl:k < G.length:=by omega
   obtain ⟨g1,o1,rfl,hl1,_⟩:=HA.out.at_ (by omega)
   obtain ⟨g2,o2,rfl,hl2,_⟩:=HB.out.at_ (by omega)
   have r1:=HA.out.one hkl
   have r2:=HB.out.one hkl
   have hg32:=HA.out.dig _ (List.getElem_mem hkl)
   have hDl:((G[k]).map v8).length=32:=by rw [List.length_map];exact hg32
   have hq:∀W,(Op.equalIn 10000 52 (.agg ((G[k]).map v8).toArray) (.agg ((G[k]).map v8).toArray)).run Tryz.prog W= .ok true W:=fun W=> quh _ hg32 W
   generalize (G[k]).map v8=D at*;have HR1:=Qh (fun (v:World) (hv:Kept w v (fun _=> False))=> (show v.rangeAt g1 (o1+k*32) D from fun q u hu=> hv.cell (r1 q u hu) (fun h=> h)))
   have HR2:=Qh (fun (v:World) (hv:Kept w v (fun _=> False))=> (show v.rangeAt g2 (o2+k*32) D from fun q u hu=> hv.cell (r2 q u hu) (fun h=> h)))
   have hi:(Tryz.prog.info? 52).map (·.size)=some D.length:=by rw [hDl];kernel_rfl
   have HI:=Qh hi
   have hu25:Tryz.prog.underlying 52=some (.array 32 5):=Tryz.underlying52
   have hki:(k:Int) < (n:Int):=by omega
   have HB0:=Qh (show Kept w wr.drew (fun _=> False)from KW.out.drewN 1)
   clear r1 r2 hDl hi HA HB hg32 hkl;go_wp2_with fail;refine wp_region_held (S:=fun v=> Kept w v (fun _=> False)) (by kernel_rfl) ?_
   change wpAnyH _ _ _ _ _ _ _ _ (World.drew _)
   refine wpAnyH_take (i:=0) (v:= ?_) rfl (by kernel_rfl) (by kernel_rfl) (by kernel_rfl) (fun _ _ _ h=> h) (Or.inl ⟨by rfl, ?_⟩) HB0.out ?_
   rotate_left
   ·(intro v hv;go_simp <;> with_reducible rfl)
   simp only [List.getElem_toArray,List.getElem_cons_zero,Act.put,List.setIfInBounds_toArray,List.set_cons_zero,List.set_cons_succ]
   refine wpAnyH_take (i:=1) (v:= ?_) rfl (by kernel_rfl) (by kernel_rfl) (by kernel_rfl) (fun _ _ _ h=> h) (Or.inl ⟨by rfl, ?_⟩) HB0.out ?_
   rotate_left
   ·(intro v hv;go_simp <;> with_reducible rfl)
   simp only [List.getElem_toArray,List.getElem_cons_succ,List.getElem_cons_zero,Act.put,List.setIfInBounds_toArray,List.set_cons_zero,List.set_cons_succ]
   refine wpAnyH_take (i:=2) (v:= ?_) rfl (by kernel_rfl) (by kernel_rfl) (by kernel_rfl) (fun _ _ _ h=> h) (Or.inl ⟨by rfl, ?_⟩) HB0.out ?_
   rotate_left
   ·(intro v hv;go_simp <;> with_reducible rfl)
   simp only [List.getElem_toArray,List.getElem_cons_succ,List.getElem_cons_zero,Act.put,List.setIfInBounds_toArray,List.set_cons_zero,List.set_cons_succ]
   refine wpAnyH_take (i:=3) (v:= .agg D.toArray) rfl (by kernel_rfl) (by kernel_rfl) (by kernel_rfl) (fun _ _ _ h=> h) (yieldsIf_load_mid (by rfl) 52 (.tmp 19) (by rfl) g1 (o1+k*32) (by rfl) D (.array 32 5) (fun v hv=> HR1.out v hv) hu25 rfl HI.out) HB0.out ?_
   simp only [List.getElem_toArray,List.getElem_cons_succ,List.getElem_cons_zero,Act.put,List.setIfInBounds_toArray,List.set_cons_zero,List.set_cons_succ]
   refine wpAnyH_take (i:=4) (v:= ?_) rfl (by kernel_rfl) (by kernel_rfl) (by kernel_rfl) (fun _ _ _ h=> h) (Or.inl ⟨by rfl, ?_⟩) HB0.out ?_
   rotate_left
   ·(intro v hv;go_simp <;> with_reducible rfl)
   simp only [List.getElem_toArray,List.getElem_cons_succ,List.getElem_cons_zero,Act.put,List.setIfInBounds_toArray,List.set_cons_zero,List.set_cons_succ]
   refine wpAnyH_take (i:=5) (v:= ?_) rfl (by kernel_rfl) (by kernel_rfl) (by kernel_rfl) (fun _ _ _ h=> h) (Or.inl ⟨by rfl, ?_⟩) HB0.out ?_
   rotate_left
   ·(intro v hv;go_simp <;> with_reducible rfl)
   simp only [List.getElem_toArray,List.getElem_cons_succ,List.getElem_cons_zero,Act.put,List.setIfInBounds_toArray,List.set_cons_zero,List.set_cons_succ]
   refine wpAnyH_take (i:=6) (v:= ?_) rfl (by kernel_rfl) (by kernel_rfl) (by kernel_rfl) (fun _ _ _ h=> h) (Or.inl ⟨by rfl, ?_⟩) HB0.out ?_
   rotate_left
   ·(intro v hv;go_simp <;> with_reducible rfl)
   simp only [List.getElem_toArray,List.getElem_cons_succ,List.getElem_cons_zero,Act.put,List.setIfInBounds_toArray,List.set_cons_zero,List.set_cons_succ]
   refine wpAnyH_take (i:=7) (v:= .agg D.toArray) rfl (by kernel_rfl) (by kernel_rfl) (by kernel_rfl) (fun _ _ _ h=> h) (yieldsIf_load_mid (by rfl) 52 (.tmp 23) (by rfl) g2 (o2+k*32) (by rfl) D (.array 32 5) (fun v hv=> HR2.out v hv) hu25 rfl HI.out) HB0.out ?_
   simp only [List.getElem_toArray,List.getElem_cons_succ,List.getElem_cons_zero,Act.put,List.setIfInBounds_toArray,List.set_cons_zero,List.set_cons_succ]
   refine wpAnyH_take (i:=8) (v:= ?_) rfl (by kernel_rfl) (by kernel_rfl) (by kernel_rfl) (fun _ _ _ h=> h) (Or.inl ⟨by rfl, ?_⟩) HB0.out ?_
   rotate_left
   ·(intro v hv;go_simp <;> with_reducible rfl)
   simp only [List.getElem_toArray,List.getElem_cons_succ,List.getElem_cons_zero,Act.put,List.setIfInBounds_toArray,List.set_cons_zero,List.set_cons_succ]
   refine wpAnyH_done (by kernel_rfl) ?_ _
   go_wp2_with fail;go_roundg (n - (k+1))
   case rel=> exact ⟨k+1,by go_num,by omega,rfl,HB0⟩
   case measure=> omega
  ·go_wp2_with fail
   go_ret;exact ⟨rfl,KW⟩
theorem qsr (w:World) (c:Cfg) (P P2:List Pe) (A1:Option Addr) (n1 c1:Nat) (A2:Option Addr) (n2 c2:Nat) (A3:Option Addr) (n3 c3:Nat) (E1:Option Addr) (d1:Nat) (E2:Option Addr) (d2:Nat) (E3:Option Addr) (d3:Nat)
  (hM:ConfIn w c P A1 n1 c1 A2 n2 c2 A3 n3 c3) (hN:ConfIn w c P2 E1 n1 d1 E2 n2 d2 E3 n3 d3) (hn1:n1≤140737488355328) (hn2:n2≤140737488355328) (hn3:n3≤140737488351232) (hl:∀h∈c.hist,h.rest.length≤140737488351232):
  Calls Tryz.prog 11 #[.agg #[.slice A1 n1 c1, .slice A2 n2 c2, .slice A3 n3 c3], .agg #[.slice E1 n1 d1, .slice E2 n2 d2, .slice E3 n3 d3]] w fun e w'=> e= .returned (.bool true)∧Hid (Below w.heap.size w w'):=by
 have HBL:=Qh (show Below w.heap.size w ((w.alloc (.cells #[.slice A1 n1 c1, .slice A2 n2 c2, .slice A3 n3 c3] 28)).alloc (.cells #[.slice E1 n1 d1, .slice E2 n2 d2, .slice E3 n3 d3] 28))from (qac w _).alloc (by simp) _)
 have HB1:=Qh (show Row ((w.alloc (.cells #[.slice A1 n1 c1, .slice A2 n2 c2, .slice A3 n3 c3] 28)).alloc (.cells #[.slice E1 n1 d1, .slice E2 n2 d2, .slice E3 n3 d3] 28)) w.heap.size 28 [.slice A1 n1 c1, .slice A2 n2 c2, .slice A3 n3 c3]from (Row.new _ _ _).alloc _)
 have HB2:=Qh (show Row ((w.alloc (.cells #[.slice A1 n1 c1, .slice A2 n2 c2, .slice A3 n3 c3] 28)).alloc (.cells #[.slice E1 n1 d1, .slice E2 n2 d2, .slice E3 n3 d3] 28)) (w.heap.size+1) 28 [.slice E1 n1 d1, .slice E2 n2 d2, .slice E3 n3 d3]from by
  have:=Row.new (w.alloc (.cells #[.slice A1 n1 c1, .slice A2 n2 c2, .slice A3 n3 c3] 28)) 28 [.slice E1 n1 d1, .slice E2 n2 d2, .slice E3 n3 d3]
  simpa using this)
 have HM:=Qh (fun W (q:Below w.heap.size w W)=> hM.below q)
 have HN:=Qh (fun W (q:Below w.heap.size w W)=> hN.below q)
 have hsame:histsOf P=histsOf P2:=hM.same.trans hN.same.symm
 have HSE:=Qh hsame
 have HL:=Qh (show ∀p∈P,p.rest.row.length≤140737488351232 from fun p hp=> hl p.hist (by rw [←hM.same];exact List.mem_map.2 ⟨p,hp,rfl⟩))
 clear hM hN hsame hl
 go_enter Tryz.func11,Tryz.ntmps11
 go_upto_region 1 with fail
 generalize (w.alloc (.cells #[.slice A1 n1 c1, .slice A2 n2 c2, .slice A3 n3 c3] 28)).alloc (.cells #[.slice E1 n1 d1, .slice E2 n2 d2, .slice E3 n3 d3] 28)=w0 at*
 have HK:=Qh (fun W (q:Below w0.heap.size w0 W)=> show W.cell? ⟨w.heap.size,0,none⟩=some (.slice A1 n1 c1)∧W.cell? ⟨w.heap.size,1,none⟩=some (.slice A2 n2 c2)∧W.cell? ⟨w.heap.size,2,none⟩=some (.slice A3 n3 c3)∧W.cell? ⟨w.heap.size+1,0,none⟩=some (.slice E1 n1 d1)∧W.cell? ⟨w.heap.size+1,1,none⟩=some (.slice E2 n2 d2)∧W.cell? ⟨w.heap.size+1,2,none⟩=some (.slice E3 n3 d3)from by
  have r:=HB1.out.below q HB1.out.lt
  have s:=HB2.out.below q HB2.out.lt
  exact ⟨r.cell (i:=0) rfl,r.cell (i:=1) rfl,r.cell (i:=2) rfl,s.cell (i:=0) rfl,s.cell (i:=1) rfl,s.cell (i:=2) rfl⟩)
 clear HB1 HB2
 have HBB:=Qh (fun W (q:Below w0.heap.size w0 W)=> show Below w.heap.size w W from HBL.out.trans (q.mono HBL.out.size))
 have B0:=Qh (Below.refl w0.heap.size w0)
 obtain ⟨x0,x1,x2,y0,y1,y2⟩:=HK.out w0 B0.out
 go_wp2_with fail
 refine (qzx w0 A1 n1 c1 E1 d1 c.ids (HM.out w0 (HBB.out w0 B0.out)).ids (HN.out w0 (HBB.out w0 B0.out)).ids hn1).mono ?_
 rintro e w1 ⟨rfl,K1⟩
 have B1:=Qh (B0.out.trans ((qak K1.out (Nat.le_refl _) (fun _ _ h=> h)).mono B0.out.size))
 clear B0 K1 x0 x1 x2 y0 y1 y2
 obtain ⟨x0,x1,x2,y0,y1,y2⟩:=HK.out w1 B1.out
 go_wp2_with fail
 refine (qv1 w1 A2 n2 c2 E2 d2 P P2 (HM.out w1 (HBB.out w1 B1.out)).hist (HN.out w1 (HBB.out w1 B1.out)).hist HSE.out hn2 HL.out).mono ?_
 rintro e w2 ⟨rfl,m,rfl⟩
 have B2:=Qh (qaa B1.out m)
 clear B1 x0 x1 x2 y0 y1 y2
 generalize w1.drewN m=w2 at*
 obtain ⟨x0,x1,x2,y0,y1,y2⟩:=HK.out w2 B2.out
 have HSM:=Qh (qsw w2 A3 E3 n3 c3 n3 d3 c.rest c.rest (HM.out w2 (HBB.out w2 B2.out)).rest (HN.out w2 (HBB.out w2 B2.out)).rest hn3 hn3)
 rw [decide_eq_true rfl]at HSM
 go_wp2_with fail
 refine HSM.out.mono ?_
 rintro e w3 ⟨rfl,q,rfl⟩
 go_wp2_with fail
 go_ret
 exact ⟨rfl,Qh (HBB.out _ (qaa B2.out q))⟩
end Go.Proofs.YtgmangikcfakgaaGreatDoor
