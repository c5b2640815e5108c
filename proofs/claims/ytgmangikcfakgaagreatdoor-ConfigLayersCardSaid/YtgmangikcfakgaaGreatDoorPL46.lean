import Derived.Test.YtgmangikcfakgaaGreatDoorPL34
import Derived.Test.YtgmangikcfakgaaGreatDoorPL29
import Derived.Test.YtgmangikcfakgaaGreatDoorPL26
import Derived.BigQuiet
import Derived.Test.YtgmangikcfakgaaGreatDoorPL33
import Derived.Deep.RegionHeld3
namespace Go.Proofs.YtgmangikcfakgaaGreatDoor
open Go
namespace Jo
open Jt Js
set_option maxRecDepth 100000
def osK:List UInt8:=[111,115]
def linuxK:List UInt8:=[108,105,110,117,120]
def P14:List (List V):=[[⟨4,osK,linuxK,0⟩]]
def R14:List V:=[⟨6,[],[],1⟩,⟨4,osK,linuxK,0⟩]
theorem os_valid:validF osK=true:=valid_ascii _ (by decide)
theorem linux_valid:validF linuxK=true:=valid_ascii _ (by decide)
theorem os_one {d:Nat} (hd:d < 50):One d true ⟨4,osK,linuxK,0⟩ [] []:=one_str hd (fun h=> by cases h) os_valid linux_valid
theorem right14:rightPF R14=true:=whole_right (v:=⟨6,[],[],1⟩) (P:=P14) (own_obj 1) (.cons (os_one (by decide)) .nil) rfl (fun _=> by decide) (by decide)
theorem is14:ObjIs R14 P14:=ObjIs.of (P:=P14) (n:=1) rfl right14 (parts_ends (.cons (os_one (d:=1) (by decide)) .nil))
theorem obj14:objA [osK] [[⟨4,[],linuxK,0⟩]]=R14:=by
 unfold objA fineF
 rw [if_pos ⟨by rw [List.all_cons,show rightPF [⟨4,[],linuxK,0⟩]=true from right_one (one_str (by decide) (fun _=> rfl) valid_nil linux_valid) (by decide)];rfl,rfl⟩]
 exact if_pos right14
theorem plain14:plainF R14 rootK histK=true:=is_plain is14 (by decide) (by decide) rfl
def d14:List UInt8:=1::List.replicate 31 0
def e14:Hist:=⟨[120],false,none0⟩
def c14:Cfg:=⟨[d14],[e14,bare true],R14⟩
theorem x_valid:validF [120]=true:=valid_sign (by decide)
theorem e14_row:rowH e14=[⟨6,[],[],1⟩,⟨4,byK,[120],0⟩]:=by
 have:=ObjIs.add none_is (key:=byK) (v:=⟨4,[],[120],0⟩) (l:=[]) (one_right (one_str (by decide) (fun _=> rfl) valid_none x_valid) (by decide)) (own_by x_valid (by decide)) (fun h=> by cases h) (by decide)
 exact this.1.eq
theorem e14_one:One 2 false ⟨6,[],[],1⟩ [⟨4,byK,[120],0⟩] (item true ⟨4,byK,[120],0⟩ []):=
 ⟨own_obj 1,by decide,[byK],(own_by x_valid (d:=3) (by decide)).rows,rfl,fun _=> by decide⟩
theorem b14_row:rowH (bare true)=[⟨6,[],[],1⟩,⟨1,emptyK,[],0⟩]:=bare_row true
theorem b14_one:One 2 false ⟨6,[],[],1⟩ [⟨1,emptyK,[],0⟩] (item true ⟨1,emptyK,[],0⟩ []):=
 ⟨own_obj 1,by decide,[emptyK],(own_true empty_valid (d:=3) (by decide) (o:=true) (fun h=> by cases h)).rows,rfl,fun _=> by decide⟩
theorem ok14:okC c14=true:=by
 unfold okC
 rw [show plainF c14.rest rootK histK=true from plain14]
 have h1:okH e14=true:=by
  unfold okH
  rw [show e14.rest=none0 from rfl,show e14.who=[120]from rfl,none_plain,x_valid]
  rfl
 show (true && true && true && decide (0 < c14.hist.length→layersN c14.hist=c14.ids.length) && (okH e14 && (okH (bare true) && true)))=true
 rw [h1,bare_ok]
 rfl
theorem body14:rightPF (bodyC c14)=true:=by
 refine body_ok ok14 (fun h hm=> ?_) ⟨[[],[]], ?_⟩ ?_
 ·rcases List.mem_cons.1 hm with rfl | hm
  ·rw [e14_row]
   exact one_right (one_bare e14_one) (by decide)
  ·rw [List.mem_singleton.1 hm,b14_row]
   exact one_right (one_bare b14_one) (by decide)
 ·show Parts 2 false _ [rowH e14,rowH (bare true)]
  rw [e14_row,b14_row]
  exact .cons e14_one (.cons b14_one .nil)
 ·show R14.length+(3+[d14].length)+([rowH e14,rowH (bare true)].flatten.length+1)≤5000
  rw [e14_row,b14_row]
  decide
theorem dig14:DigC c14:=fun d hd=> by
 rw [List.mem_singleton.1 hd]
 rfl
theorem sh14:Short 12000 R14:=by
 unfold R14 Short
 decide
theorem fit14:FitC c14:=by
 refine ⟨short_more sh14 (by decide),show 2≤250000 by decide,fun h hm=> ?_⟩
 rcases List.mem_cons.1 hm with rfl | hm
 ·exact ⟨show 1≤1048576 by decide,sh_none,show 1≤250000 by decide⟩
 ·rw [List.mem_singleton.1 hm]
  exact ⟨Nat.zero_le _,sh_none,show 1≤250000 by decide⟩
theorem prints14:∃t,PrintsC c14 t:=by
 refine prints_C (row_yes14 ok14 body14).2 dig14 sh14 fun h hm=> ?_
 rcases List.mem_cons.1 hm with rfl | hm
 ·exact ⟨show 1≤12000 by decide,sh_none⟩
 ·rw [List.mem_singleton.1 hm]
  exact ⟨Nat.zero_le _,sh_none⟩
def heads14:List UInt8:=[123,34,104,105,115,116,111,114,121,34,58,91,123,34,99,114,101,97,116,101,100,95,98,121,34,58,34,120,34,125,44,123,34,101,109,112,116]
theorem parts14:partsC c14=[[⟨6,rootK,[],2⟩,⟨4,typeK,layersK,0⟩,⟨5,diffK,[],1⟩,⟨4,[],Dg.text d14,0⟩],[⟨5,histK,[],2⟩,⟨6,[],[],1⟩,⟨4,byK,[120],0⟩,⟨6,[],[],1⟩,⟨1,emptyK,[],0⟩]]:=by
 unfold partsC
 rw [if_neg (show ¬c14.hist=[]from List.cons_ne_nil _ _)]
 show [named rootK (rootV [d14])]++[named histK (listF [rowH e14,rowH (bare true)])]=_
 rw [e14_row,b14_row]
 rfl
theorem row14:rowC c14=[⟨6,[],[],3⟩,⟨5,histK,[],2⟩,⟨6,[],[],1⟩,⟨4,byK,[120],0⟩,⟨6,[],[],1⟩,⟨1,emptyK,[],0⟩,⟨4,osK,linuxK,0⟩,⟨6,rootK,[],2⟩,⟨5,diffK,[],1⟩,⟨4,[],Dg.text d14,0⟩,⟨4,typeK,layersK,0⟩]:=by
 obtain ⟨P,hC⟩:=conf_is ok14 body14
 have hP:P=P14:=ends_unique P P14 hC.rest.ends is14.ends (by
  have h1:=hC.rest.eq
  have h2:=is14.eq
  rw [show c14.rest=R14 from rfl,h2]at h1
  simp only [List.cons.injEq,V.mk.injEq,true_and]at h1
  omega) (by
  have h1:=hC.rest.eq
  have h2:=is14.eq
  rw [show c14.rest=R14 from rfl,h2]at h1
  exact (List.cons.inj h1).2.symm)
 rw [hC.row,hC.obj.eq,hP,parts14]
 generalize Dg.text d14=D
 rfl
theorem take_len14 {t L:List UInt8} {n:Nat} (h:t.take n=L) (hl:L.length=n):n≤t.length:=by
 have:=congrArg List.length h
 rw [List.length_take]at this
 omega
theorem small14 {t:List UInt8} (h:Js.Row (rowC c14) t):t.take 37=heads14∧40≤t.length:=by
 rw [row14]at h
 have hH:One 1 true ⟨5,histK,[],2⟩ [⟨6,[],[],1⟩,⟨4,byK,[120],0⟩,⟨6,[],[],1⟩,⟨1,emptyK,[],0⟩] (item false ⟨6,[],[],1⟩ (item true ⟨4,byK,[120],0⟩ [])++44::item false ⟨6,[],[],1⟩ (item true ⟨1,emptyK,[],0⟩ [])):=by
  obtain ⟨k1,a1,a2,a3⟩:=e14_one.kids
  exact ⟨⟨fun h=> (by cases h),hist_valid, .inr (.inr (.inr ⟨.inl rfl,rfl,by decide⟩))⟩,by decide,[[],[]],Rows.more e14_one.own e14_one.deep a1 a2 a3 b14_one.rows,rfl,fun e=> by cases e⟩
 obtain ⟨tr,hR⟩:∃tr,One 1 true ⟨6,rootK,[],2⟩ [⟨5,diffK,[],1⟩,⟨4,[],Dg.text d14,0⟩,⟨4,typeK,layersK,0⟩] tr:=by
  obtain ⟨t1,o1⟩:=one_list (d:=2) (o:=true) (key:=diffK) (n:=1) (P:=[[⟨4,[],Dg.text d14,0⟩]]) (ks:=[[]]) (by decide) (fun h=> by cases h) diff_valid (.cons (one_str (by decide) (fun _=> rfl) valid_none (text_valid d14)) .nil) rfl
  obtain ⟨k1,a1,a2,a3⟩:=o1.kids
  have o2:One 2 true ⟨4,typeK,layersK,0⟩ [] []:=one_str (by decide) (fun h=> by cases h) type_valid (valid_ascii _ (by decide))
  exact ⟨_,⟨(fun h=> by cases h),root_valid, .inr (.inr (.inr ⟨.inr rfl,rfl,by decide⟩))⟩,by decide,[diffK,typeK],Rows.more o1.own o1.deep a1 a2 a3 o2.rows,rfl,fun _=> by decide⟩
 obtain ⟨k1,a1,a2,a3⟩:=hH.kids
 have hO:=os_one (d:=1) (by decide)
 obtain ⟨k2,b1,b2,b3⟩:=hO.kids
 have hr:=Rows.one (own_obj 3) (d:=0) (by decide) (Rows.more hH.own hH.deep a1 a2 a3 (Rows.more hO.own hO.deep b1 b2 b3 hR.rows)) rfl (fun _=> by decide)
 obtain ⟨_,_,e⟩:=rows_det h.2 _ _ _ _ [] [] hr rfl rfl
 obtain ⟨X,hX⟩:∃X,t=123::((item true ⟨5,histK,[],2⟩ (item false ⟨6,[],[],1⟩ (item true ⟨4,byK,[120],0⟩ [])++44::item false ⟨6,[],[],1⟩ (item true ⟨1,emptyK,[],0⟩ []))++44::X)++[125]):=⟨_,e⟩
 rw [hX,head_char (k:=histK) (by decide) rfl,head_char (k:=byK) (by decide) rfl,head_char (k:=emptyK) (by decide) rfl]
 rw [show body ⟨4,byK,[120],0⟩ []=quoteF [120]from rfl,quoteF_plain (by decide)]
 refine ⟨rfl, ?_⟩
 exact Nat.le_trans (show 40≤41 by decide) (take_len14 (n:=41) (L:=[123,34,104,105,115,116,111,114,121,34,58,91,123,34,99,114,101,97,116,101,100,95,98,121,34,58,34,120,34,125,44,123,34,101,109,112,116,121,95,108,97]) rfl rfl)
def y1:List UInt8:=[123,34,114,111,111,116,102,115,34,58,123,34,116,121,112,101,34,58,34,108,97,121,101,114,115,34,44,34,100,105,102,102,95,105,100,115,34,58,91,93,125,125]
def y2:List UInt8:=[123,34,114,111,111,116,102,115,34,58,123,34,116,121,112,101,34,58,34,108,97,121,101,114,115,34,44,34,100,105,102,102,95,105,100,115,34,58,91,93,125,44,34,104,105,115,116,111,114,121,34,58,91,123,125,93,125]
def q1:List V:=[⟨6,rootK,[],2⟩,⟨4,typeK,layersK,0⟩,⟨5,diffK,[],0⟩]
def q2:List V:=[⟨5,histK,[],1⟩,⟨6,[],[],0⟩]
theorem q1_one:One 1 true ⟨6,rootK,[],2⟩ [⟨4,typeK,layersK,0⟩,⟨5,diffK,[],0⟩] (item true ⟨4,typeK,layersK,0⟩ []++44::item true ⟨5,diffK,[],0⟩ []):=by
 have o1:One 2 true ⟨4,typeK,layersK,0⟩ [] []:=one_str (by decide) (fun h=> by cases h) type_valid (valid_ascii _ (by decide))
 have o2:One 2 true ⟨5,diffK,[],0⟩ [] []:=⟨⟨(fun h=> by cases h),diff_valid, .inr (.inr (.inr ⟨.inl rfl,rfl,by decide⟩))⟩,by decide,[], .nil _ _,rfl,fun e=> by cases e⟩
 obtain ⟨k1,a1,a2,a3⟩:=o1.kids
 exact ⟨⟨(fun h=> by cases h),root_valid, .inr (.inr (.inr ⟨.inr rfl,rfl,by decide⟩))⟩,by decide,[typeK,diffK],Rows.more o1.own o1.deep a1 a2 a3 o2.rows,rfl,fun _=> by decide⟩
theorem q1_text:item true ⟨6,rootK,[],2⟩ (item true ⟨4,typeK,layersK,0⟩ []++44::item true ⟨5,diffK,[],0⟩ [])=[34,114,111,111,116,102,115,34,58,123,34,116,121,112,101,34,58,34,108,97,121,101,114,115,34,44,34,100,105,102,102,95,105,100,115,34,58,91,93,125]:=by
 rw [head_char (k:=rootK) (by decide) rfl,head_char (k:=typeK) (by decide) rfl,head_char (k:=diffK) (by decide) rfl,show body ⟨4,typeK,layersK,0⟩ []=quoteF layersK from rfl,quoteF_plain (by decide)]
 rfl
theorem q2_one:One 1 true ⟨5,histK,[],1⟩ [⟨6,[],[],0⟩] (item false ⟨6,[],[],0⟩ []):=
 ⟨⟨(fun h=> by cases h),hist_valid, .inr (.inr (.inr ⟨.inl rfl,rfl,by decide⟩))⟩,by decide,[[]],(show One 2 false ⟨6,[],[],0⟩ [] []from ⟨own_obj 0,by decide,[], .nil _ _,rfl,fun _=> List.nodup_nil⟩).rows,rfl,fun e=> by cases e⟩
theorem y1_parse:parseF y1= .ok 1 (⟨6,[],[],1⟩::q1) []:=by
 have hr:Js.Row (⟨6,[],[],1⟩::q1) y1:=by
  refine ⟨by decide, ?_⟩
  have:=Rows.one (own_obj 1) (d:=0) (by decide) q1_one.rows rfl (fun _=> by decide)
  rw [q1_text]at this
  exact this
 exact parse_back hr
theorem y2_parse:parseF y2= .ok 1 (⟨6,[],[],2⟩::(q1++q2)) []:=by
 have hr:Js.Row (⟨6,[],[],2⟩::(q1++q2)) y2:=by
  refine ⟨by decide, ?_⟩
  obtain ⟨k1,a1,a2,a3⟩:=q1_one.kids
  have:=Rows.one (own_obj 2) (d:=0) (by decide) (Rows.more q1_one.own q1_one.deep a1 a2 a3 q2_one.rows) rfl (fun _=> by decide)
  have this:Js.Rows 0 false [[]] (⟨6,[],[],2⟩::(q1++q2)) (item false ⟨6,[],[],2⟩ (item true ⟨6,rootK,[],2⟩ (item true ⟨4,typeK,layersK,0⟩ []++44::item true ⟨5,diffK,[],0⟩ [])++44::item true ⟨5,histK,[],1⟩ (item false ⟨6,[],[],0⟩ []))):=this
  rw [q1_text,head_char (k:=histK) (by decide) rfl]at this
  exact this
 exact parse_back hr
theorem ids0:idsF (rootV [])=some []:=by
 have hO:=root_is (ids:=[]) (by decide)
 have h1:memF (rootV []) typeK 4=some layersK:=by
  unfold memF
  rw [ObjIs.key hO]
  rfl
 unfold idsF
 rw [if_pos ⟨rfl,h1⟩,ObjIs.key hO]
 rfl
theorem is_y1:ObjIs (⟨6,[],[],1⟩::q1) [q1]:=ObjIs.of (P:=[q1]) (n:=1) rfl (whole_right (v:=⟨6,[],[],1⟩) (P:=[q1]) (own_obj 1) (.cons q1_one .nil) rfl (fun _=> by decide) (by decide)) (parts_ends (.cons q1_one .nil))
theorem is_y2:ObjIs (⟨6,[],[],2⟩::(q1++q2)) [q1,q2]:=ObjIs.of (P:=[q1,q2]) (n:=2) rfl (whole_right (v:=⟨6,[],[],2⟩) (P:=[q1,q2]) (own_obj 2) (.cons q1_one (.cons q2_one .nil)) rfl (fun _=> by decide) (by decide)) (parts_ends (.cons q1_one (.cons q2_one .nil)))
theorem y1_conf:∃r,parseC y1= .ok ⟨[],[],r⟩:=by
 unfold parseC
 rw [y1_parse]
 have h1:ofKey (⟨6,[],[],1⟩::q1) rootK=rootV []:=by rw [ObjIs.key is_y1];rfl
 have h2:ofKey (⟨6,[],[],1⟩::q1) histK=[]:=by rw [ObjIs.key is_y1];rfl
 refine ⟨srt (dropA (dropA (⟨6,[],[],1⟩::q1) rootK) histK), ?_⟩
 show confF (⟨6,[],[],1⟩::q1)=_
 unfold confF histF
 rw [h1,ids0,h2,if_pos rfl]
 rfl
theorem y2_conf:parseC y2= .err 3:=by
 unfold parseC
 rw [y2_parse]
 have h1:ofKey (⟨6,[],[],2⟩::(q1++q2)) rootK=rootV []:=by rw [ObjIs.key is_y2];rfl
 have h2:ofKey (⟨6,[],[],2⟩::(q1++q2)) histK=[⟨5,[],[],1⟩,⟨6,[],[],0⟩]:=by rw [ObjIs.key is_y2];rfl
 have h3:∃h:Hist,h.empty=false∧entryF none0=some h:=by
  refine ⟨_, ?_,entry_yes none_right rfl (fun p hp hg=> ?_) (fun p hp hg=> ?_)⟩
  ·exact empty_none ((get_none none_is _).2 fun h=> by cases h)
  ·rw [(get_none none_is _).2 fun h=> by cases h]at hg
   cases hg
  ·rw [(get_none none_is _).2 fun h=> by cases h]at hg
   cases hg
 obtain ⟨h,he,h3⟩:=h3
 have h4:histF (⟨6,[],[],2⟩::(q1++q2))=some [h]:=by
  unfold histF
  rw [h2,if_neg (List.cons_ne_nil _ _)]
  have hp:partsL [⟨5,[],[],1⟩,⟨6,[],[],0⟩]=[none0]:=rfl
  unfold listO
  rw [if_pos (show kindOf [⟨5,[],[],1⟩,⟨6,[],[],0⟩]=5 from rfl),hp,allO,h3]
  rfl
 show confF (⟨6,[],[],2⟩::(q1++q2))=_
 unfold confF
 rw [h1,ids0,h4]
 show (if 60 < 0∨200 < 1 then OutC.err 2 else if 0 < 1∧layersN [h]≠0 then OutC.err 3 else _)=_
 have hn:layersN [h]≠0:=by
  unfold layersN
  rw [if_neg (by rw [he];exact fun e=> by cases e)]
  exact Nat.succ_ne_zero _
 rw [if_neg (by decide),if_pos ⟨by decide,hn⟩]
theorem empty_conf:parseC [123,125]= .err 3:=by
 have h:parseF [123,125]= .ok 1 [⟨6,[],[],0⟩] []:=rfl
 unfold parseC
 rw [h]
 show confF none0= .err 3
 unfold confF
 rw [key_none ((get_none none_is rootK).2 fun h=> by cases h)]
 rfl
theorem off14:rowC ⟨[],c14.hist,R14⟩=[]:=by
 refine row_no14 ?_
 unfold okC
 rw [show decide (0 < c14.hist.length→layersN c14.hist=([]:List (List UInt8)).length)=false from rfl,Bool.and_false]
 rfl
theorem layers14:layersN c14.hist=1:=rfl
end Jo
end Go.Proofs.YtgmangikcfakgaaGreatDoor
namespace Go.Proofs.YtgmangikcfakgaaGreatDoor
open Go.RowKit Sh Jt Js Jo
set_option maxRecDepth 100000
end Go.Proofs.YtgmangikcfakgaaGreatDoor
namespace Go.Proofs.YtgmangikcfakgaaGreatDoor
open Go.RowKit Sh Jt Js Jo
end Go.Proofs.YtgmangikcfakgaaGreatDoor
namespace Go.Proofs.YtgmangikcfakgaaGreatDoor
open Go.RowKit Sh Jt Js Jo
set_option maxRecDepth 100000
end Go.Proofs.YtgmangikcfakgaaGreatDoor
