import Derived.Test.YtgmangikcfakgaaGreatDoorPL4
import Derived.Test.YtgmangikcfakgaaGreatDoorPL6
namespace Go.Proofs.YtgmangikcfakgaaGreatDoor
open Go
namespace Jo
open Jt Js
set_option maxRecDepth 100000
theorem one_str {d:Nat} {o:Bool} {key t:List UInt8} (hd:d < 50) (ho:o=false→key=[]) (hk:validF key=true) (h:validF t=true):One d o ⟨4,key,t,0⟩ [] []:=
 ⟨⟨ho,hk, .inr (.inr (.inl ⟨rfl,h,rfl⟩))⟩,hd,[], .nil _ _,rfl,fun e=> by cases e⟩
theorem one_list {d n:Nat} {o:Bool} {key:List UInt8} {P:List (List V)} {ks:List (List UInt8)} (hd:d < 50) (ho:o=false→key=[]) (hk:validF key=true) (hp:Parts (d+1) false ks P) (hn:P.length=n):∃t,One d o ⟨5,key,[],n⟩ P.flatten t:=by
 obtain ⟨t,ht⟩:=hp.rows
 refine ⟨t,⟨ho,hk, .inr (.inr (.inr ⟨.inl rfl,rfl,by show (0:Int)≤(n:Int);omega⟩))⟩,hd,ks,ht, ?_,fun e=> by cases e⟩
 show (ks.length:Int)=(n:Int)
 rw [←hp.len,hn]
theorem right_one {v:V} {l:List V} {t:List UInt8} (h:One 0 false v l t) (hl:(v::l).length≤5000):rightPF (v::l)=true:=by
 have hr:=h.rows
 rw [h.own.1 rfl]at hr
 exact (prog_is _).2 ⟨_,hl,hr⟩
def i1:List V:=[⟨3,[],[49],0⟩]
def sx:List V:=[⟨4,[],[120],0⟩]
def E0:List V:=[⟨5,[],[],0⟩]
def O:List V:=[⟨6,[],[],2⟩,⟨3,[97],[45,53],0⟩,⟨5,[98],[],2⟩,⟨4,[],[120],0⟩,⟨3,[],[49],0⟩]
def D:List V:=[⟨6,[],[],2⟩,⟨4,[97],[121],0⟩,⟨5,[98],[],2⟩,⟨4,[],[120],0⟩,⟨3,[],[49],0⟩]
def E:List V:=[⟨6,[],[],3⟩,⟨3,[97],[45,53],0⟩,⟨5,[98],[],2⟩,⟨4,[],[120],0⟩,⟨3,[],[49],0⟩,⟨5,[99],[],0⟩]
def F:List V:=[⟨6,[],[],1⟩,⟨3,[97],[45,53],0⟩]
def P0:List (List V):=[[⟨3,[97],[45,53],0⟩],[⟨5,[98],[],2⟩,⟨4,[],[120],0⟩,⟨3,[],[49],0⟩]]
end Jo
end Go.Proofs.YtgmangikcfakgaaGreatDoor
namespace Go.Proofs.YtgmangikcfakgaaGreatDoor
open Go
namespace Jo
open Jt Js
def rootK:List UInt8:=[114,111,111,116,102,115]
def histK:List UInt8:=[104,105,115,116,111,114,121]
def typeK:List UInt8:=[116,121,112,101]
def diffK:List UInt8:=[100,105,102,102,95,105,100,115]
def byK:List UInt8:=[99,114,101,97,116,101,100,95,98,121]
def emptyK:List UInt8:=[101,109,112,116,121,95,108,97,121,101,114]
structure Hist where
 who:List UInt8
 empty:Bool
 rest:List V
structure Cfg where
 ids:List (List UInt8)
 hist:List Hist
 rest:List V
def layersN:List Hist→Nat
 | []=> 0
 | h::r=> if h.empty=true then layersN r else layersN r+1
def allO {α:Type} (f:List V→Option α):List (List V)→Option (List α)
 | []=> some []
 | p::P=> (f p).bind fun a=> (allO f P).bind fun r=> some (a::r)
def listO {α:Type} (f:List V→Option α) (L:List V):Option (List α):=if kindOf L=5 then allO f (partsL L) else none
def digO (p:List V):Option (List UInt8):=(tellF 4 p).bind Dg.parse
def idsF (L:List V):Option (List (List UInt8)):=if countOf L=2∧memF L typeK 4=some layersK then listO digO (ofKey L diffK) else none
def entryF (p:List V):Option Hist:=
 if isO p=true∧(ofKey p byK=[]∨kindOf (ofKey p byK)=4)∧(ofKey p emptyK=[]∨kindOf (ofKey p emptyK)=1∨kindOf (ofKey p emptyK)=2) then
  some ⟨textOf (ofKey p byK),decide (kindOf (ofKey p emptyK)=1),srt (dropA (dropA p byK) emptyK)⟩
 else none
def histF (L:List V):Option (List Hist):=if ofKey L histK=[] then some [] else listO entryF (ofKey L histK)
inductive OutC where
 | ok (c:Cfg)
 | err (e:Nat)
def confF (L:List V):OutC:=match idsF (ofKey L rootK),histF L with
 | some d,some h=> if 60 < d.length∨200 < h.length then .err 2 else if 0 < h.length∧layersN h≠d.length then .err 3 else .ok ⟨d,h,srt (dropA (dropA L rootK) histK)⟩
 | _,_=> .err 3
def parseC (s:List UInt8):OutC:=match parseF s with
 | .ok _ l _=> confF l
 | .err e=> .err e
def plainF (L:List V) (a b:List UInt8):Bool:=isO L && decide (getA L 0 a=none) && decide (getA L 0 b=none) && decide (srt L=L)
def idV (d:List UInt8):List V:=[⟨4,[],Dg.text d,0⟩]
def rootV (ids:List (List UInt8)):List V:=⟨6,[],[],2⟩::⟨4,typeK,layersK,0⟩::⟨5,diffK,[],(ids.length:Nat)⟩::(ids.map idV).flatten
def rowH (h:Hist):List V:=
 let l:=if h.who=[] then h.rest else setA h.rest byK [⟨4,[],h.who,0⟩]
 if h.empty=true then setA l emptyK [⟨1,[],[],0⟩] else l
def bodyC (c:Cfg):List V:=
 let x:=setA c.rest rootK (rootV c.ids)
 if c.hist=[] then x else setA x histK (listA (c.hist.map rowH))
def okH (h:Hist):Bool:=plainF h.rest byK emptyK && validF h.who
def okC (c:Cfg):Bool:=plainF c.rest rootK histK && decide (c.ids.length≤60) && decide (c.hist.length≤200) && decide (0 < c.hist.length→layersN c.hist=c.ids.length) && c.hist.all okH
def rowC (c:Cfg):List V:=if okC c=true then sortA (bodyC c) else []
def DigC (c:Cfg):Prop:=∀d∈c.ids,d.length=32
theorem plain_is {L:List V} {a b:List UInt8} (h:plainF L a b=true):∃P,ObjIs L P∧a∉P.map keyOf∧b∉P.map keyOf∧srt L=L:=by
 unfold plainF at h
 rw [Bool.and_eq_true,Bool.and_eq_true,Bool.and_eq_true]at h
 obtain ⟨P,hP⟩:=obj_is h.1.1.1
 exact ⟨P,hP,(get_none hP _).1 (of_decide_eq_true h.1.1.2),(get_none hP _).1 (of_decide_eq_true h.1.2),of_decide_eq_true h.2⟩
theorem is_plain {L:List V} {P:List (List V)} {a b:List UInt8} (h:ObjIs L P) (ha:a∉P.map keyOf) (hb:b∉P.map keyOf) (hs:srt L=L):plainF L a b=true:=by
 unfold plainF
 rw [h.isO,decide_eq_true ((get_none h _).2 ha),decide_eq_true ((get_none h _).2 hb),decide_eq_true hs]
 rfl
theorem but_gone {a b:List UInt8}:∀ {Z:List (List V)},(∀z∈Z,keyOf z=a∨keyOf z=b)→butF b (butF a Z)=[]
 | [],_=> rfl
 | z::Z,h=> by
  have ih:=but_gone (a:=a) (b:=b) (Z:=Z) fun x hx=> h x (List.mem_cons_of_mem _ hx)
  by_cases ha:keyOf z=a
  ·rw [but_skip ha]
   exact ih
  ·rw [but_keep ha]
   rcases h z List.mem_cons_self with e | e
   ·exact absurd e ha
   ·rw [but_skip e]
    exact ih
theorem rest_back {L X:List V} {P Z:List (List V)} {a b:List UInt8} (hP:ObjIs L P) (hs:srt L=L) (ha:a∉P.map keyOf) (hb:b∉P.map keyOf) (hX:ObjIs X (P++Z)) (hZ:∀z∈Z,keyOf z=a∨keyOf z=b):srt (dropA (dropA (srt X) a) b)=L:=by
 have hD:=ObjIs.but (ObjIs.but (ObjIs.srt hX) a) b
 have hR:=ObjIs.srt hP
 rw [hs]at hR
 rw [srt_perm hD hR,hs]
 refine (but_perm (but_perm (ord_perm _).symm)).trans ?_
 rw [List.map_append,but_app,but_app,but_gone (Z:=Z.map srt) (fun z hz=> by
  obtain ⟨y,hy,rfl⟩:=List.mem_map.1 hz
  rw [key_srt]
  exact hZ y hy)]
 rw [but_none (key:=a) (by rw [map_keys];exact ha),but_none (key:=b) (P:=P.map srt) (by rw [map_keys];exact hb),List.append_nil]
 exact ord_perm _
theorem key_back {X:List V} {P Z:List (List V)} {k:List UInt8} (hX:ObjIs X (P++Z)) (hk:k∉P.map keyOf):ofKey (srt X) k=srt (look Z k):=by
 show cutA (srt X) (plc (getA (srt X) 0 k))=_
 rw [cut_srt hX,hX.look,look_right _ hk]
def partsH (h:Hist):List (List V):=(if h.who=[] then [] else [[⟨4,byK,h.who,0⟩]])++(if h.empty=true then [[⟨1,emptyK,[],0⟩]] else [])
theorem by_empty:byK≠emptyK:=by decide
theorem parts_keysH (h:Hist):∀z∈partsH h,keyOf z=byK∨keyOf z=emptyK:=by
 intro z hz
 unfold partsH at hz
 rcases List.mem_append.1 hz with hz | hz
 ·split at hz
  ·cases hz
  ·rw [List.mem_singleton.1 hz]
   exact .inl rfl
 ·split at hz
  ·rw [List.mem_singleton.1 hz]
   exact .inr rfl
  ·cases hz
theorem look_by (h:Hist):look (partsH h) byK=if h.who=[] then [] else [⟨4,[],h.who,0⟩]:=by
 unfold partsH
 by_cases hw:h.who=[]
 ·rw [if_pos hw,if_pos hw,List.nil_append]
  split
  ·rw [look_cons,if_neg (show ¬keyOf [(⟨1,emptyK,[],0⟩:V)]=byK from by decide)]
   rfl
  ·rfl
 ·rw [if_neg hw,if_neg hw,List.singleton_append,look_cons,if_pos (show keyOf [(⟨4,byK,h.who,0⟩:V)]=byK from rfl)]
  rfl
theorem look_empty (h:Hist):look (partsH h) emptyK=if h.empty=true then [⟨1,[],[],0⟩] else []:=by
 unfold partsH
 have e:∀Z:List (List V),look ((if h.who=[] then [] else [[⟨4,byK,h.who,0⟩]])++Z) emptyK=look Z emptyK:=fun Z=> by
  split
  ·rfl
  ·rw [List.singleton_append,look_cons,if_neg (show ¬keyOf [(⟨4,byK,h.who,0⟩:V)]=emptyK from by_empty)]
 rw [e]
 split
 ·rw [look_cons,if_pos (show keyOf [(⟨1,emptyK,[],0⟩:V)]=emptyK from rfl)]
  rfl
 ·rfl
theorem right_pos {L:List V} (h:rightPF L=true):0 < L.length:=(right_end h).2.1
theorem isO_right {L:List V} (h:isO L=true):rightPF L=true:=by
 unfold isO at h
 rw [Bool.and_eq_true]at h
 exact h.1
theorem rowH_is {h:Hist} (ho:okH h=true) (hr:rightPF (rowH h)=true):∃P,ObjIs h.rest P∧byK∉P.map keyOf∧emptyK∉P.map keyOf∧srt h.rest=h.rest∧ObjIs (rowH h) (P++partsH h):=by
 unfold okH at ho
 rw [Bool.and_eq_true]at ho
 obtain ⟨P,hP,h1,h2,h3⟩:=plain_is ho.1
 refine ⟨P,hP,h1,h2,h3, ?_⟩
 obtain ⟨X,hX⟩:∃X,X=if h.who=[] then h.rest else setA h.rest byK [⟨4,[],h.who,0⟩]:=⟨_,rfl⟩
 have hrow:rowH h=if h.empty=true then setA X emptyK [⟨1,[],[],0⟩] else X:=by rw [hX];rfl
 rw [hrow]at hr ⊢
 have hXr:0 < X.length:=by
  by_cases he:h.empty=true
  ·rw [if_pos he]at hr
   exact right_pos (isO_right (set_inv (right_pos hr)).1)
  ·rw [if_neg he]at hr
   exact right_pos hr
 have hXo:ObjIs X (P++if h.who=[] then [] else [[⟨4,byK,h.who,0⟩]]):=by
  by_cases hw:h.who=[]
  ·rw [if_pos hw]at hX ⊢
   rw [hX,List.append_nil]
   exact hP
  ·rw [if_neg hw]at hX ⊢
   rw [hX]at hXr ⊢
   exact (set_new hP h1 hXr).1
 unfold partsH
 rw [←List.append_assoc]
 by_cases he:h.empty=true
 ·rw [if_pos he,if_pos he]
  rw [if_pos he]at hr
  refine (set_new hXo ?_ (right_pos hr)).1
  rw [List.map_append,List.mem_append]
  rintro (e | e)
  ·exact h2 e
  ·split at e
   ·cases e
   ·have:=List.mem_singleton.1 e
    exact by_empty this.symm
 ·rw [if_neg he,if_neg he,List.append_nil]
  exact hXo
theorem srt_one (k:Int) (t:List UInt8):srt [⟨k,[],t,0⟩]=[⟨k,[],t,0⟩]:=by
 unfold srt
 show sortF 1 _=_
 rw [sortF]
 show _::((if isObj _=true then ordF else id) ((partsF (0:Int).toNat []).map (sortF 0))).flatten=_
 have:partsF (0:Int).toNat []=[]:=rfl
 rw [this]
 split <;> rfl
theorem srt_nil:srt []=[]:=rfl
theorem entry_row {h:Hist} (ho:okH h=true) (hr:rightPF (rowH h)=true):entryF (srt (rowH h))=some h:=by
 obtain ⟨P,hP,h1,h2,h3,hX⟩:=rowH_is ho hr
 have kb:ofKey (srt (rowH h)) byK=if h.who=[] then [] else [⟨4,[],h.who,0⟩]:=by
  rw [key_back hX h1,look_by]
  split
  ·exact srt_nil
  ·exact srt_one _ _
 have ke:ofKey (srt (rowH h)) emptyK=if h.empty=true then [⟨1,[],[],0⟩] else []:=by
  rw [key_back hX h2,look_empty]
  split
  ·exact srt_one _ _
  ·exact srt_nil
 have hrest:=rest_back hP h3 h1 h2 hX (parts_keysH h)
 unfold entryF
 rw [kb,ke,hrest,(ObjIs.srt hX).isO]
 have g1:(if h.who=[] then [] else [(⟨4,[],h.who,0⟩:V)])=[]∨kindOf (if h.who=[] then [] else [(⟨4,[],h.who,0⟩:V)])=4:=by
  split
  ·exact .inl rfl
  ·exact .inr rfl
 have g2:(if h.empty=true then [(⟨1,[],[],0⟩:V)] else [])=[]∨kindOf (if h.empty=true then [(⟨1,[],[],0⟩:V)] else [])=1∨kindOf (if h.empty=true then [(⟨1,[],[],0⟩:V)] else [])=2:=by
  split
  ·exact .inr (.inl rfl)
  ·exact .inl rfl
 have e1:textOf (if h.who=[] then [] else [(⟨4,[],h.who,0⟩:V)])=h.who:=by
  split
  next e=> rw [e];rfl
  next=> rfl
 have e2:decide (kindOf (if h.empty=true then [(⟨1,[],[],0⟩:V)] else [])=1)=h.empty:=by
  split
  next e=> rw [e];rfl
  next e=> rw [Bool.eq_false_iff.2 e];rfl
 rw [if_pos ⟨rfl,g1,g2⟩,e1,e2]
theorem allO_map {α β:Type} {f:List V→Option α} {g:β→List V} {k:β→α}:∀ {ls:List β},(∀d∈ls,f (g d)=some (k d))→allO f (ls.map g)=some (ls.map k)
 | [],_=> rfl
 | d::r,h=> by
  rw [List.map_cons,allO,h d List.mem_cons_self,allO_map (k:=k) fun x hx=> h x (List.mem_cons_of_mem _ hx)]
  rfl
end Jo
end Go.Proofs.YtgmangikcfakgaaGreatDoor
