import Derived.Test.YtgmangikcfakgaaGreatDoorPL28
import Derived.Test.YtgmangikcfakgaaGreatDoorPL8
namespace Go.Proofs.YtgmangikcfakgaaGreatDoor
open Go.RowKit Sh Jt Js Jo
namespace Jo
theorem key_nil {L:List V} {key:List UInt8}:ofKey L key=[]↔getA L 0 key=none:=by
 constructor
 ·intro h
  cases hg:getA L 0 key with
  | none=> rfl
  | some p=>
   obtain ⟨hp,h1,h2⟩:=get_head hg
   have hO:isO L=true:=by
    unfold getA at hg
    split at hg
    next hc=>
     unfold isO
     have h1:=hc.1
     have h2:=hc.2
     unfold placeB at h1
     rw [Bool.and_eq_true]at h1
     rw [h1.2,Bool.true_and,decide_eq_true_eq]
     exact h2
    next=> cases hg
   obtain ⟨P,hP⟩:=obj_is hO
   have hk:key∈P.map Js.keyOf:=Classical.byContradiction fun h=> by
    rw [(get_none hP key).2 h]at hg
    cases hg
   obtain ⟨q,hq,rfl⟩:=List.mem_map.1 hk
   have hne:look P (Js.keyOf q)≠[]:=fun e=> by
    unfold look at e
    cases hi:idxF (Js.keyOf q) P with
    | none=> exact absurd (idx_none.1 hi) (fun h=> h (List.mem_map.2 ⟨q,hq,rfl⟩))
    | some j=>
     rw [hi]at e
     obtain ⟨hj,_,_⟩:=idx_some hi
     have e:named [] (P.getD j [])=[]:=e
     rw [List.getD_eq_getElem?_getD,List.getElem?_eq_getElem hj,Option.getD_some]at e
     have:=hP.ends.pos (List.getElem_mem hj)
     have h3:=named_len [] P[j]
     rw [e]at h3
     rw [List.length_nil]at h3
     omega
   rw [ObjIs.key hP]at h
   exact absurd h hne
 ·exact key_none
theorem key_at {L:List V} {key:List UInt8} {p:Nat} (h:getA L 0 key=some p):∃hp:p < L.length,ofKey L key≠[]∧isO L=true∧rightPF (ofKey L key)=true∧kindOf (ofKey L key)=L[p].kind∧textOf (ofKey L key)=L[p].text:=by
 obtain ⟨hp,h1,h2⟩:=get_head h
 have hne:ofKey L key≠[]:=fun e=> by rw [key_nil.1 e]at h;cases h
 have hO:=key_isO hne
 obtain ⟨P,hP⟩:=obj_is hO
 exact ⟨hp,hne,hO,key_right hP hne,h1,h2⟩
theorem allO_snoc {α:Type} {f:List V→Option α}:∀ {P:List (List V)} {ds:List α} {p:List V} {d:α},allO f P=some ds→f p=some d→allO f (P++[p])=some (ds++[d])
 | [],ds,p,d,h,hd=> by
  obtain rfl:=Option.some.inj h
  show (f p).bind _=_
  rw [hd]
  rfl
 | q::P,ds,p,d,h,hd=> by
  rw [allO]at h
  obtain ⟨x,hx,h⟩:=Option.bind_eq_some_iff.1 h
  obtain ⟨r,hr,h⟩:=Option.bind_eq_some_iff.1 h
  obtain rfl:=Option.some.inj h
  rw [List.cons_append,allO,hx,allO_snoc hr hd]
  rfl
theorem allO_none {α:Type} {f:List V→Option α}:∀ {P:List (List V)} {p:List V},p∈P→f p=none→allO f P=none
 | q::P,p,hm,hd=> by
  rw [allO]
  rcases List.mem_cons.1 hm with rfl | hm
  ·rw [hd]
   rfl
  ·rw [allO_none hm hd]
   cases f q <;> rfl
theorem parts_right {L:List V} (hr:rightPF L=true) (h5:kindOf L=5):∀p∈partsL L,rightPF p=true:=by
 obtain ⟨v,Q,rfl,he,hn,_,⟨ks,_,hq,_⟩,hl⟩:=right_whole hr
 have hk5:v.kind=5:=h5
 rw [show isObj v=false from decide_eq_false (by omega)]at hq
 rw [list_parts hq (by rw [←hq.len];exact hn)]
 intro p hp
 have hbare:=parts_bare hq p hp
 obtain ⟨v2,l2,t2,rfl,ho,hle⟩:=parts_mem hq p hp
 have e:({v2 with key:=[]}:V)=v2:=by
  have:v2.key=[]:=hbare
  cases v2
  subst this
  rfl
 have hb:=one_bare ho
 rw [e]at hb
 rw [List.length_cons]at hle hl
 exact one_right hb (by omega)
theorem entry_not {L:List V} (h:kindOf L≠6):entryF L=none:=by
 unfold entryF isO
 rw [show decide (kindOf L=6)=false from decide_eq_false h,Bool.and_false]
 exact if_neg fun h=> by cases h.1
theorem entry_yes {L:List V} (hr:rightPF L=true) (h6:kindOf L=6) (hb:∀p (hp:p < L.length),getA L 0 byK=some p→L[p].kind=4) (he:∀p (hp:p < L.length),getA L 0 emptyK=some p→L[p].kind=1∨L[p].kind=2):
  entryF L=some ⟨textOf (ofKey L byK),decide (kindOf (ofKey L emptyK)=1),srt (dropA (dropA L byK) emptyK)⟩:=by
 unfold entryF
 refine if_pos ⟨?_, ?_, ?_⟩
 ·unfold isO
  rw [hr,decide_eq_true h6]
  rfl
 ·cases hg:getA L 0 byK with
  | none=> exact .inl (key_none hg)
  | some p=>
   obtain ⟨hp,_,_,_,h1,_⟩:=key_at hg
   exact .inr (h1.trans (hb p hp hg))
 ·cases hg:getA L 0 emptyK with
  | none=> exact .inl (key_none hg)
  | some p=>
   obtain ⟨hp,_,_,_,h1,_⟩:=key_at hg
   rcases he p hp hg with e | e
   ·exact .inr (.inl (h1.trans e))
   ·exact .inr (.inr (h1.trans e))
theorem empty_none {L:List V} (hg:getA L 0 emptyK=none):decide (kindOf (ofKey L emptyK)=1)=false:=by rw [key_none hg];rfl
theorem sort_yes {L:List V} (h:rightPF L=true):sortA L=srt L:=by
 unfold sortA
 rw [if_pos h]
theorem plain_no {L:List V} {a b:List UInt8} (h:rightPF L=false):plainF L a b=false:=by
 unfold plainF isO
 rw [h]
 rfl
end Jo
end Go.Proofs.YtgmangikcfakgaaGreatDoor
