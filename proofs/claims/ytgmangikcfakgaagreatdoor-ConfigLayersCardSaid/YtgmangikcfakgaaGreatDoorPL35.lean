import Derived.Test.YtgmangikcfakgaaGreatDoorPL30
import Derived.Test.YtgmangikcfakgaaGreatDoorPL34
namespace Go.Proofs.YtgmangikcfakgaaGreatDoor
open Go
namespace Jo
open Jt Js
def ones (r:List V):List (List V):=r.map fun v=> [v]
theorem digO_not {v:V} {l:List V} (h:¬v.kind=4):digO (v::l)=none:=by
 unfold digO tellF
 rw [if_neg (show ¬kindOf (v::l)=4 from h)]
 rfl
theorem digO_one {v:V} {l:List V} (h:v.kind=4):digO (v::l)=Dg.parse v.text:=by
 unfold digO tellF
 rw [if_pos (show kindOf (v::l)=4 from h)]
 rfl
theorem leaf_str {d:Nat} {o:Bool} {v:V} {l:List V} {t:List UInt8} (h:One d o v l t) (h4:v.kind=4):l=[]:=by
 obtain ⟨ks,h1,h2,_⟩:=h.kids
 have hc:v.count=0:=by
  rcases h.own.2.2 with ⟨_,_,e⟩ | ⟨_,_,_,e⟩ | ⟨_,_,e⟩ | ⟨e,_,_⟩
  ·exact e
  ·exact e
  ·exact e
  ·omega
 rw [hc]at h2
 have:ks=[]:=List.eq_nil_of_length_eq_zero (by omega)
 subst this
 exact (rows_none h1 rfl).1
theorem ids_flat {d:Nat} {ks:List (List UInt8)} {P:List (List V)} (h:Parts d false ks P):allO digO P=allO digO (ones P.flatten):=by
 induction h with
 | nil=> rfl
 | @cons v l t ks P h r ih=>
  rw [List.flatten_cons]
  by_cases h4:v.kind=4
  ·obtain rfl:=leaf_str h h4
   show allO digO ([v]::P)=allO digO ([v]::ones P.flatten)
   rw [allO,allO,ih]
  ·show allO digO ((v::l)::P)=allO digO ([v]::ones (l++P.flatten))
   rw [allO,allO,digO_not h4,digO_not h4]
   rfl
theorem ids_list {X:List V} (hr:rightPF X=true):listO digO X=if kindOf X=5 then allO digO (ones (X.drop 1)) else none:=by
 unfold listO
 by_cases h5:kindOf X=5
 ·rw [if_pos h5,if_pos h5]
  obtain ⟨v,Q,rfl,he,hn,_,⟨ks,_,hq,_⟩,hl⟩:=right_whole hr
  have hk5:v.kind=5:=h5
  rw [show isObj v=false from decide_eq_false (by omega)]at hq
  rw [list_parts hq (by rw [←hq.len];exact hn)]
  exact ids_flat hq
 ·rw [if_neg h5,if_neg h5]
def byO (L:List V):Option (List UInt8):=if ofKey L byK=[] then some [] else tellF 4 (ofKey L byK)
def emO (L:List V):Option Bool:=if ofKey L emptyK=[] then some false else if kindOf (ofKey L emptyK)=1 then some true else if kindOf (ofKey L emptyK)=2 then some false else none
theorem by_none {L:List V} (h:getA L 0 byK=none):byO L=some []:=if_pos (key_none h)
theorem by_at {L:List V} {p:Nat} (h:getA L 0 byK=some p) {hp:p < L.length}:byO L=if L[p].kind=4 then some L[p].text else none:=by
 obtain ⟨_,hne,_,_,h1,h2⟩:=key_at h
 unfold byO tellF
 rw [if_neg hne,h1,h2]
theorem em_none {L:List V} (h:getA L 0 emptyK=none):emO L=some false:=if_pos (key_none h)
theorem em_at {L:List V} {p:Nat} (h:getA L 0 emptyK=some p) {hp:p < L.length}:emO L=if L[p].kind=1 then some true else if L[p].kind=2 then some false else none:=by
 obtain ⟨_,hne,_,_,h1,_⟩:=key_at h
 unfold emO
 rw [if_neg hne,h1]
def entryO (L:List V):Option (List UInt8)→Option Bool→Option Hist
 | some x,some y=> if kindOf L=6 then some ⟨x,y,srt (dropA (dropA L byK) emptyK)⟩ else none
 | _,_=> none
theorem entryO_left (L:List V) (b:Option Bool):entryO L none b=none:=by cases b <;> rfl
theorem entryO_not {L:List V} (h:¬kindOf L=6) (a:Option (List UInt8)) (b:Option Bool):entryO L a b=none:=by
 cases a with
 | none=> exact entryO_left L b
 | some x=> cases b with
  | none=> rfl
  | some y=> exact if_neg h
theorem entry_two {L:List V} (hr:rightPF L=true) {a:Option (List UInt8)} {b:Option Bool} (ha:byO L=a) (hb:emO L=b):entryF L=entryO L a b:=by
 have hO:isO L=decide (kindOf L=6):=by unfold isO;rw [hr,Bool.true_and]
 by_cases h6:kindOf L=6
 case neg=>
  rw [entryO_not h6]
  exact entry_not h6
 rw [decide_eq_true h6]at hO
 unfold entryF
 unfold byO tellF at ha
 unfold emO at hb
 have e1:(ofKey L byK=[]∨kindOf (ofKey L byK)=4)↔a.isSome=true:=by
  subst ha
  by_cases c1:ofKey L byK=[]
  ·rw [if_pos c1];exact ⟨fun _=> rfl,fun _=> .inl c1⟩
  ·rw [if_neg c1]
   by_cases c2:kindOf (ofKey L byK)=4
   ·rw [if_pos c2];exact ⟨fun _=> rfl,fun _=> .inr c2⟩
   ·rw [if_neg c2];exact ⟨fun h=> (h.elim c1 c2).elim,fun h=> by cases h⟩
 have e2:(ofKey L emptyK=[]∨kindOf (ofKey L emptyK)=1∨kindOf (ofKey L emptyK)=2)↔b.isSome=true:=by
  subst hb
  by_cases c1:ofKey L emptyK=[]
  ·rw [if_pos c1];exact ⟨fun _=> rfl,fun _=> .inl c1⟩
  ·rw [if_neg c1]
   by_cases c2:kindOf (ofKey L emptyK)=1
   ·rw [if_pos c2];exact ⟨fun _=> rfl,fun _=> .inr (.inl c2)⟩
   ·rw [if_neg c2]
    by_cases c3:kindOf (ofKey L emptyK)=2
    ·rw [if_pos c3];exact ⟨fun _=> rfl,fun _=> .inr (.inr c3)⟩
    ·rw [if_neg c3];exact ⟨fun h=> (h.elim c1 (fun h=> h.elim c2 c3)).elim,fun h=> by cases h⟩
 cases a with
 | none=>
  rw [entryO_left]
  exact if_neg fun h=> by have:=e1.1 h.2.1;cases this
 | some x=> cases b with
  | none=> exact if_neg fun h=> by have:=e2.1 h.2.2;cases this
  | some y=>
   rw [if_pos ⟨hO,e1.2 rfl,e2.2 rfl⟩]
   have t1:textOf (ofKey L byK)=x:=by
    by_cases c1:ofKey L byK=[]
    ·rw [if_pos c1]at ha
     rw [c1]
     exact Option.some.inj ha
    ·rw [if_neg c1]at ha
     split at ha
     ·exact Option.some.inj ha
     ·cases ha
   have t2:decide (kindOf (ofKey L emptyK)=1)=y:=by
    by_cases c1:ofKey L emptyK=[]
    ·rw [if_pos c1]at hb
     rw [c1]
     exact Option.some.inj hb
    ·rw [if_neg c1]at hb
     by_cases c2:kindOf (ofKey L emptyK)=1
     ·rw [if_pos c2]at hb
      rw [decide_eq_true c2]
      exact Option.some.inj hb
     ·rw [if_neg c2]at hb
      rw [decide_eq_false c2]
      split at hb
      ·exact Option.some.inj hb
      ·cases hb
   rw [t1,t2]
   exact (if_pos h6).symm
def rowX (h:Hist):List V:=if okH h=true then rowH h else []
theorem right_nil:rightPF []=false:=by
 cases h:rightPF []with
 | false=> rfl
 | true=> exact absurd (right_pos h) (Nat.lt_irrefl _)
theorem setA_nil (L:List V) (key:List UInt8):setA L key []=[]:=by
 unfold setA
 exact if_neg fun h=> by rw [right_nil]at h;cases h.2
theorem sortA_nil:sortA []=[]:=by
 unfold sortA
 exact if_neg (by rw [right_nil];exact fun h=> by cases h)
theorem row_prog {c:Cfg} (hp:plainF c.rest rootK histK=true) (h1:c.ids.length≤60) (h2:c.hist.length≤200) (h3:0 < c.hist.length→layersN c.hist=c.ids.length):
  rowC c=sortA (if c.hist=[] then setA c.rest rootK (rootV c.ids) else setA (setA c.rest rootK (rootV c.ids)) histK (listA (c.hist.map rowX))):=by
 have hok:okC c=c.hist.all okH:=by
  unfold okC
  rw [hp,decide_eq_true h1,decide_eq_true h2,decide_eq_true h3]
  rfl
 unfold rowC
 rw [hok]
 cases ha:c.hist.all okH with
 | true=>
  rw [if_pos rfl]
  have e:c.hist.map rowX=c.hist.map rowH:=List.map_congr_left fun h hm=> if_pos (List.all_eq_true.1 ha h hm)
  rw [e]
  rfl
 | false=>
  rw [if_neg (fun h=> by cases h)]
  obtain ⟨h,hm,hb⟩:∃h∈c.hist,¬okH h=true:=by
   refine Classical.byContradiction fun hn=> ?_
   have:c.hist.all okH=true:=List.all_eq_true.2 fun h hm=> Classical.byContradiction fun hb=> hn ⟨h,hm,hb⟩
   rw [ha]at this
   cases this
  have hne:¬c.hist=[]:=fun e=> by rw [e]at hm;cases hm
  have hl:listA (c.hist.map rowX)=[]:=by
   unfold listA
   refine if_neg fun hr=> ?_
   have:=List.all_eq_true.1 hr (rowX h) (List.mem_map.2 ⟨h,hm,rfl⟩)
   unfold rowX at this
   rw [if_neg hb,right_nil]at this
   cases this
  rw [if_neg hne,hl,setA_nil,sortA_nil]
theorem row_off {c:Cfg} (h:plainF c.rest rootK histK=false∨¬c.ids.length≤60∨¬c.hist.length≤200∨¬(0 < c.hist.length→layersN c.hist=c.ids.length)):rowC c=[]:=by
 refine row_no14 ?_
 unfold okC
 rcases h with h | h | h | h
 ·rw [h];rfl
 ·rw [decide_eq_false h,Bool.and_false];rfl
 ·rw [decide_eq_false h,Bool.and_false];rfl
 ·rw [decide_eq_false h,Bool.and_false];rfl
theorem sum_rowX:∀H:List Hist,(H.map rowX).flatten.length≤(H.map rowH).flatten.length
 | []=> Nat.le_refl _
 | h::H=> by
  have ih:=sum_rowX H
  rw [List.map_cons,List.map_cons,List.flatten_cons,List.flatten_cons,List.length_append,List.length_append]
  have:(rowX h).length≤(rowH h).length:=by
   unfold rowX
   split
   ·exact Nat.le_refl _
   ·exact Nat.zero_le _
  omega
theorem plain_seen {L:List V} {a b:List UInt8} (h0:0 < L.length) (hk:kindOf L=6) (hs:sortA L=L):plainF L a b=(decide (getA L 0 a=none) && decide (getA L 0 b=none)):=by
 have hr:rightPF L=true:=by
  cases h:rightPF L with
  | true=> rfl
  | false=>
   unfold sortA at hs
   rw [if_neg (by rw [h];exact fun e=> by cases e)]at hs
   rw [←hs]at h0
   exact absurd h0 (Nat.lt_irrefl _)
 unfold plainF isO
 rw [hr,decide_eq_true hk,←sort_yes hr,decide_eq_true hs,Bool.and_true]
 rfl
theorem plain_unsorted {L:List V} {a b:List UInt8} (hs:sortA L≠L):plainF L a b=false:=by
 cases hr:rightPF L with
 | false=> exact plain_no hr
 | true=>
  unfold plainF
  rw [←sort_yes hr,decide_eq_false hs,Bool.and_false]
theorem plain_kind {L:List V} {a b:List UInt8} (h:kindOf L≠6):plainF L a b=false:=by
 unfold plainF isO
 rw [decide_eq_false h,Bool.and_false]
 rfl
end Jo
end Go.Proofs.YtgmangikcfakgaaGreatDoor
