import Derived.Test.YtgmangikcfakgaaGreatDoorPP3
import Derived.Test.YtgmangikcfakgaaGreatDoorPP4
namespace Go.Proofs.YtgmangikcfakgaaGreatDoor
open Go
namespace Jo
open Jt Js
set_option maxRecDepth 100000
theorem one_str {d:Nat} {o:Bool} {key t:List UInt8} (hd:d < 50) (ho:o=false→key=[]) (hk:validF key=true) (h:validF t=true):One d o ⟨4,key,t,0⟩ [] []:=
 ⟨⟨ho,hk, .inr (.inr (.inl ⟨rfl,h,rfl⟩))⟩,hd,[], .nil _ _,rfl,fun e=> by cases e⟩
theorem one_list {d n:Nat} {o:Bool} {key:List UInt8} {P:List (List V)} {ks:List (List UInt8)} (hd:d < 50) (ho:o=false→key=[]) (hk:validF key=true) (hp:Parts (d+1) false ks P) (hn:P.length=n):∃t,One d o ⟨5,key,[],n⟩ P.flatten t:=by
 obtain ⟨t,ht⟩:=hp.rows
 refine ⟨t,⟨ho,hk, .inr (.inr (.inr ⟨.inl rfl,rfl,by show (0:Int)≤(n:Int);omega⟩))⟩,hd,ks,ht, ?_,fun e=> by cases e⟩
 show (ks.length:Int)=(n:Int)
 rw [←hp.len,hn]
theorem right_one {v:V} {l:List V} {t:List UInt8} (h:One 0 false v l t) (hl:(v::l).length≤5000):rightPF (v::l)=true:=by
 have hr:=h.rows
 rw [h.own.1 rfl]at hr
 exact (prog_is _).2 ⟨_,hl,hr⟩
def i1:List V:=[⟨3,[],[49],0⟩]
def sx:List V:=[⟨4,[],[120],0⟩]
def L2:List V:=[⟨5,[],[],2⟩,⟨4,[],[120],0⟩,⟨3,[],[49],0⟩]
def E0:List V:=[⟨5,[],[],0⟩]
def O:List V:=[⟨6,[],[],2⟩,⟨3,[97],[45,53],0⟩,⟨5,[98],[],2⟩,⟨4,[],[120],0⟩,⟨3,[],[49],0⟩]
def D:List V:=[⟨6,[],[],2⟩,⟨4,[97],[121],0⟩,⟨5,[98],[],2⟩,⟨4,[],[120],0⟩,⟨3,[],[49],0⟩]
def E:List V:=[⟨6,[],[],3⟩,⟨3,[97],[45,53],0⟩,⟨5,[98],[],2⟩,⟨4,[],[120],0⟩,⟨3,[],[49],0⟩,⟨5,[99],[],0⟩]
def F:List V:=[⟨6,[],[],1⟩,⟨3,[97],[45,53],0⟩]
def P0:List (List V):=[[⟨3,[97],[45,53],0⟩],[⟨5,[98],[],2⟩,⟨4,[],[120],0⟩,⟨3,[],[49],0⟩]]
end Jo
end Go.Proofs.YtgmangikcfakgaaGreatDoor
namespace Go.Proofs.YtgmangikcfakgaaGreatDoor
open Go
namespace Jo
open Jt Js
def rootK:List UInt8:=[114,111,111,116,102,115]
def histK:List UInt8:=[104,105,115,116,111,114,121]
def typeK:List UInt8:=[116,121,112,101]
def diffK:List UInt8:=[100,105,102,102,95,105,100,115]
def byK:List UInt8:=[99,114,101,97,116,101,100,95,98,121]
def emptyK:List UInt8:=[101,109,112,116,121,95,108,97,121,101,114]
structure Hist where
 who:List UInt8
 empty:Bool
 rest:List V
structure Cfg where
 ids:List (List UInt8)
 hist:List Hist
 rest:List V
def layersN:List Hist→Nat
 | []=> 0
 | h::r=> if h.empty=true then layersN r else layersN r+1
def allO {α:Type} (f:List V→Option α):List (List V)→Option (List α)
 | []=> some []
 | p::P=> (f p).bind fun a=> (allO f P).bind fun r=> some (a::r)
def listO {α:Type} (f:List V→Option α) (L:List V):Option (List α):=if kindOf L=5 then allO f (partsL L) else none
def digO (p:List V):Option (List UInt8):=(tellF 4 p).bind Dg.parse
def idsF (L:List V):Option (List (List UInt8)):=if countOf L=2∧memF L typeK 4=some layersK then listO digO (ofKey L diffK) else none
def entryF (p:List V):Option Hist:=
 if isO p=true∧(ofKey p byK=[]∨kindOf (ofKey p byK)=4)∧(ofKey p emptyK=[]∨kindOf (ofKey p emptyK)=1∨kindOf (ofKey p emptyK)=2) then
  some ⟨textOf (ofKey p byK),decide (kindOf (ofKey p emptyK)=1),srt (dropA (dropA p byK) emptyK)⟩
 else none
def histF (L:List V):Option (List Hist):=if ofKey L histK=[] then some [] else listO entryF (ofKey L histK)
inductive OutC where
 | ok (c:Cfg)
 | err (e:Nat)
def confF (L:List V):OutC:=match idsF (ofKey L rootK),histF L with
 | some d,some h=> if 60 < d.length∨200 < h.length then .err 2 else if 0 < h.length∧layersN h≠d.length then .err 3 else .ok ⟨d,h,srt (dropA (dropA L rootK) histK)⟩
 | _,_=> .err 3
def parseC (s:List UInt8):OutC:=match parseF s with
 | .ok _ l _=> confF l
 | .err e=> .err e
def plainF (L:List V) (a b:List UInt8):Bool:=isO L && decide (getA L 0 a=none) && decide (getA L 0 b=none) && decide (srt L=L)
def idV (d:List UInt8):List V:=[⟨4,[],Dg.text d,0⟩]
def rootV (ids:List (List UInt8)):List V:=⟨6,[],[],2⟩::⟨4,typeK,layersK,0⟩::⟨5,diffK,[],(ids.length:Nat)⟩::(ids.map idV).flatten
def rowH (h:Hist):List V:=
 let l:=if h.who=[] then h.rest else setA h.rest byK [⟨4,[],h.who,0⟩]
 if h.empty=true then setA l emptyK [⟨1,[],[],0⟩] else l
def bodyC (c:Cfg):List V:=
 let x:=setA c.rest rootK (rootV c.ids)
 if c.hist=[] then x else setA x histK (listA (c.hist.map rowH))
def okH (h:Hist):Bool:=plainF h.rest byK emptyK && validF h.who
def okC (c:Cfg):Bool:=plainF c.rest rootK histK && decide (c.ids.length≤60) && decide (c.hist.length≤200) && decide (0 < c.hist.length→layersN c.hist=c.ids.length) && c.hist.all okH
def rowC (c:Cfg):List V:=if okC c=true then sortA (bodyC c) else []
def DigC (c:Cfg):Prop:=∀d∈c.ids,d.length=32
theorem plain_is {L:List V} {a b:List UInt8} (h:plainF L a b=true):∃P,ObjIs L P∧a∉P.map keyOf∧b∉P.map keyOf∧srt L=L:=by
 unfold plainF at h
 rw [Bool.and_eq_true,Bool.and_eq_true,Bool.and_eq_true]at h
 obtain ⟨P,hP⟩:=obj_is h.1.1.1
 exact ⟨P,hP,(get_none hP _).1 (of_decide_eq_true h.1.1.2),(get_none hP _).1 (of_decide_eq_true h.1.2),of_decide_eq_true h.2⟩
theorem is_plain {L:List V} {P:List (List V)} {a b:List UInt8} (h:ObjIs L P) (ha:a∉P.map keyOf) (hb:b∉P.map keyOf) (hs:srt L=L):plainF L a b=true:=by
 unfold plainF
 rw [h.isO,decide_eq_true ((get_none h _).2 ha),decide_eq_true ((get_none h _).2 hb),decide_eq_true hs]
 rfl
theorem but_gone {a b:List UInt8}:∀ {Z:List (List V)},(∀z∈Z,keyOf z=a∨keyOf z=b)→butF b (butF a Z)=[]
 | [],_=> rfl
 | z::Z,h=> by
  have ih:=but_gone (a:=a) (b:=b) (Z:=Z) fun x hx=> h x (List.mem_cons_of_mem _ hx)
  by_cases ha:keyOf z=a
  ·rw [but_skip ha]
   exact ih
  ·rw [but_keep ha]
   rcases h z List.mem_cons_self with e | e
   ·exact absurd e ha
   ·rw [but_skip e]
    exact ih
theorem rest_back {L X:List V} {P Z:List (List V)} {a b:List UInt8} (hP:ObjIs L P) (hs:srt L=L) (ha:a∉P.map keyOf) (hb:b∉P.map keyOf) (hX:ObjIs X (P++Z)) (hZ:∀z∈Z,keyOf z=a∨keyOf z=b):srt (dropA (dropA (srt X) a) b)=L:=by
 have hD:=ObjIs.but (ObjIs.but (ObjIs.srt hX) a) b
 have hR:=ObjIs.srt hP
 rw [hs]at hR
 rw [srt_perm hD hR,hs]
 refine (but_perm (but_perm (ord_perm _).symm)).trans ?_
 rw [List.map_append,but_app,but_app,but_gone (Z:=Z.map srt) (fun z hz=> by
  obtain ⟨y,hy,rfl⟩:=List.mem_map.1 hz
  rw [key_srt]
  exact hZ y hy)]
 rw [but_none (key:=a) (by rw [map_keys];exact ha),but_none (key:=b) (P:=P.map srt) (by rw [map_keys];exact hb),List.append_nil]
 exact ord_perm _
theorem key_back {X:List V} {P Z:List (List V)} {k:List UInt8} (hX:ObjIs X (P++Z)) (hk:k∉P.map keyOf):ofKey (srt X) k=srt (look Z k):=by
 show cutA (srt X) (plc (getA (srt X) 0 k))=_
 rw [cut_srt hX,hX.look,look_right _ hk]
def partsH (h:Hist):List (List V):=(if h.who=[] then [] else [[⟨4,byK,h.who,0⟩]])++(if h.empty=true then [[⟨1,emptyK,[],0⟩]] else [])
theorem by_empty:byK≠emptyK:=by decide
theorem parts_keysH (h:Hist):∀z∈partsH h,keyOf z=byK∨keyOf z=emptyK:=by
 intro z hz
 unfold partsH at hz
 rcases List.mem_append.1 hz with hz | hz
 ·split at hz
  ·cases hz
  ·rw [List.mem_singleton.1 hz]
   exact .inl rfl
 ·split at hz
  ·rw [List.mem_singleton.1 hz]
   exact .inr rfl
  ·cases hz
theorem look_by (h:Hist):look (partsH h) byK=if h.who=[] then [] else [⟨4,[],h.who,0⟩]:=by
 unfold partsH
 by_cases hw:h.who=[]
 ·rw [if_pos hw,if_pos hw,List.nil_append]
  split
  ·rw [look_cons,if_neg (show ¬keyOf [(⟨1,emptyK,[],0⟩:V)]=byK from by decide)]
   rfl
  ·rfl
 ·rw [if_neg hw,if_neg hw,List.singleton_append,look_cons,if_pos (show keyOf [(⟨4,byK,h.who,0⟩:V)]=byK from rfl)]
  rfl
theorem look_empty (h:Hist):look (partsH h) emptyK=if h.empty=true then [⟨1,[],[],0⟩] else []:=by
 unfold partsH
 have e:∀Z:List (List V),look ((if h.who=[] then [] else [[⟨4,byK,h.who,0⟩]])++Z) emptyK=look Z emptyK:=fun Z=> by
  split
  ·rfl
  ·rw [List.singleton_append,look_cons,if_neg (show ¬keyOf [(⟨4,byK,h.who,0⟩:V)]=emptyK from by_empty)]
 rw [e]
 split
 ·rw [look_cons,if_pos (show keyOf [(⟨1,emptyK,[],0⟩:V)]=emptyK from rfl)]
  rfl
 ·rfl
theorem right_pos {L:List V} (h:rightPF L=true):0 < L.length:=(right_end h).2.1
theorem isO_right {L:List V} (h:isO L=true):rightPF L=true:=by
 unfold isO at h
 rw [Bool.and_eq_true]at h
 exact h.1
theorem rowH_is {h:Hist} (ho:okH h=true) (hr:rightPF (rowH h)=true):∃P,ObjIs h.rest P∧byK∉P.map keyOf∧emptyK∉P.map keyOf∧srt h.rest=h.rest∧ObjIs (rowH h) (P++partsH h):=by
 unfold okH at ho
 rw [Bool.and_eq_true]at ho
 obtain ⟨P,hP,h1,h2,h3⟩:=plain_is ho.1
 refine ⟨P,hP,h1,h2,h3, ?_⟩
 obtain ⟨X,hX⟩:∃X,X=if h.who=[] then h.rest else setA h.rest byK [⟨4,[],h.who,0⟩]:=⟨_,rfl⟩
 have hrow:rowH h=if h.empty=true then setA X emptyK [⟨1,[],[],0⟩] else X:=by rw [hX];rfl
 rw [hrow]at hr ⊢
 have hXr:0 < X.length:=by
  by_cases he:h.empty=true
  ·rw [if_pos he]at hr
   exact right_pos (isO_right (set_inv (right_pos hr)).1)
  ·rw [if_neg he]at hr
   exact right_pos hr
 have hXo:ObjIs X (P++if h.who=[] then [] else [[⟨4,byK,h.who,0⟩]]):=by
  by_cases hw:h.who=[]
  ·rw [if_pos hw]at hX ⊢
   rw [hX,List.append_nil]
   exact hP
  ·rw [if_neg hw]at hX ⊢
   rw [hX]at hXr ⊢
   exact (set_new hP h1 hXr).1
 unfold partsH
 rw [←List.append_assoc]
 by_cases he:h.empty=true
 ·rw [if_pos he,if_pos he]
  rw [if_pos he]at hr
  refine (set_new hXo ?_ (right_pos hr)).1
  rw [List.map_append,List.mem_append]
  rintro (e | e)
  ·exact h2 e
  ·split at e
   ·cases e
   ·have:=List.mem_singleton.1 e
    exact by_empty this.symm
 ·rw [if_neg he,if_neg he,List.append_nil]
  exact hXo
theorem srt_one (k:Int) (t:List UInt8):srt [⟨k,[],t,0⟩]=[⟨k,[],t,0⟩]:=by
 unfold srt
 show sortF 1 _=_
 rw [sortF]
 show _::((if isObj _=true then ordF else id) ((partsF (0:Int).toNat []).map (sortF 0))).flatten=_
 have:partsF (0:Int).toNat []=[]:=rfl
 rw [this]
 split <;> rfl
theorem srt_nil:srt []=[]:=rfl
theorem entry_row {h:Hist} (ho:okH h=true) (hr:rightPF (rowH h)=true):entryF (srt (rowH h))=some h:=by
 obtain ⟨P,hP,h1,h2,h3,hX⟩:=rowH_is ho hr
 have kb:ofKey (srt (rowH h)) byK=if h.who=[] then [] else [⟨4,[],h.who,0⟩]:=by
  rw [key_back hX h1,look_by]
  split
  ·exact srt_nil
  ·exact srt_one _ _
 have ke:ofKey (srt (rowH h)) emptyK=if h.empty=true then [⟨1,[],[],0⟩] else []:=by
  rw [key_back hX h2,look_empty]
  split
  ·exact srt_one _ _
  ·exact srt_nil
 have hrest:=rest_back hP h3 h1 h2 hX (parts_keysH h)
 unfold entryF
 rw [kb,ke,hrest,(ObjIs.srt hX).isO]
 have g1:(if h.who=[] then [] else [(⟨4,[],h.who,0⟩:V)])=[]∨kindOf (if h.who=[] then [] else [(⟨4,[],h.who,0⟩:V)])=4:=by
  split
  ·exact .inl rfl
  ·exact .inr rfl
 have g2:(if h.empty=true then [(⟨1,[],[],0⟩:V)] else [])=[]∨kindOf (if h.empty=true then [(⟨1,[],[],0⟩:V)] else [])=1∨kindOf (if h.empty=true then [(⟨1,[],[],0⟩:V)] else [])=2:=by
  split
  ·exact .inr (.inl rfl)
  ·exact .inl rfl
 have e1:textOf (if h.who=[] then [] else [(⟨4,[],h.who,0⟩:V)])=h.who:=by
  split
  next e=> rw [e];rfl
  next=> rfl
 have e2:decide (kindOf (if h.empty=true then [(⟨1,[],[],0⟩:V)] else [])=1)=h.empty:=by
  split
  next e=> rw [e];rfl
  next e=> rw [Bool.eq_false_iff.2 e];rfl
 rw [if_pos ⟨rfl,g1,g2⟩,e1,e2]
theorem allO_map {α β:Type} {f:List V→Option α} {g:β→List V} {k:β→α}:∀ {ls:List β},(∀d∈ls,f (g d)=some (k d))→allO f (ls.map g)=some (ls.map k)
 | [],_=> rfl
 | d::r,h=> by
  rw [List.map_cons,allO,h d List.mem_cons_self,allO_map (k:=k) fun x hx=> h x (List.mem_cons_of_mem _ hx)]
  rfl
end Jo
end Go.Proofs.YtgmangikcfakgaaGreatDoor
namespace Go.Proofs.YtgmangikcfakgaaGreatDoor
open Go
namespace Jo
open Jt Js
theorem type_valid:validF typeK=true:=valid_ascii _ (by decide)
theorem diff_valid:validF diffK=true:=valid_ascii _ (by decide)
theorem root_valid:validF rootK=true:=valid_ascii _ (by decide)
theorem hist_valid:validF histK=true:=valid_ascii _ (by decide)
theorem by_valid:validF byK=true:=valid_ascii _ (by decide)
theorem empty_valid:validF emptyK=true:=valid_ascii _ (by decide)
theorem root_hist:rootK≠histK:=by decide
theorem ids_parts {d:Nat} (hd:d < 50):∀ids:List (List UInt8),Parts d false (ids.map fun _=> []) (ids.map idV)
 | []=> .nil
 | x::r=> .cons (one_str hd (fun _=> rfl) valid_none (text_valid x)) (ids_parts hd r)
theorem flat_ids:∀ids:List (List UInt8),(ids.map idV).flatten.length=ids.length
 | []=> rfl
 | x::r=> by
  rw [List.map_cons,List.flatten_cons,List.length_append,flat_ids r,List.length_cons]
  show 1+_=_
  omega
def rootP (ids:List (List UInt8)):List (List V):=[[⟨4,typeK,layersK,0⟩],⟨5,diffK,[],(ids.length:Nat)⟩::(ids.map idV).flatten]
theorem root_flat (ids:List (List UInt8)):rootV ids=⟨6,[],[],2⟩::(rootP ids).flatten:=by
 unfold rootV rootP
 simp
theorem root_len (ids:List (List UInt8)):(rootV ids).length=3+ids.length:=by
 unfold rootV
 rw [List.length_cons,List.length_cons,List.length_cons,flat_ids]
 omega
theorem root_parts {n:Nat} (hn:n < 48) (ids:List (List UInt8)):Parts (n+1) true [typeK,diffK] (rootP ids):=by
 obtain ⟨t,ht⟩:=one_list (d:=n+1) (o:=true) (key:=diffK) (by omega) (fun h=> by cases h) diff_valid (ids_parts (d:=n+2) (by omega) ids) (List.length_map _)
 exact .cons (one_str (by omega) (fun h=> by cases h) type_valid layers_valid) (.cons ht .nil)
theorem root_one (ids:List (List UInt8)) {key:List UInt8} {n:Nat} {o:Bool} (ho:o=false→key=[]) (hk:validF key=true) (hn:n < 48):∃t,One n o ⟨6,key,[],2⟩ (rootP ids).flatten t:=by
 obtain ⟨t,ht⟩:=(root_parts hn ids).rows
 exact ⟨t,⟨ho,hk, .inr (.inr (.inr ⟨.inr rfl,rfl,(show (0:Int)≤2 by decide)⟩))⟩,by omega,_,ht,rfl,fun _=> by decide⟩
theorem root_right {ids:List (List UInt8)} (hl:ids.length≤60):rightPF (rootV ids)=true:=by
 obtain ⟨t,ht⟩:=root_one ids (key:=[]) (n:=0) (o:=false) (fun _=> rfl) valid_none (by decide)
 have h:=root_len ids
 rw [root_flat]at h ⊢
 rw [List.length_cons]at h
 exact one_right ht (by omega)
theorem root_is {ids:List (List UInt8)} (hl:ids.length≤60):ObjIs (rootV ids) (rootP ids):=by
 have h:=root_right hl
 rw [root_flat]at h ⊢
 exact ObjIs.of (n:=2) rfl h (parts_ends (root_parts (n:=0) (by decide) ids))
theorem list_ids (ids:List (List UInt8)):srt (⟨5,[],[],(ids.length:Nat)⟩::(ids.map idV).flatten)=⟨5,[],[],(ids.length:Nat)⟩::(ids.map idV).flatten:=by
 have e:(ids.map idV).map srt=ids.map idV:=by
  rw [List.map_map]
  exact List.map_congr_left fun d _=> srt_one _ _
 rw [list_srt (ids_parts (by decide) ids) (List.length_map _),e]
theorem ids_row {ids:List (List UInt8)} (hl:ids.length≤60) (hd:∀d∈ids,d.length=32):idsF (srt (rootV ids))=some ids:=by
 have hO:=root_is hl
 have h1:memF (srt (rootV ids)) typeK 4=some layersK:=by
  rw [mem_srt hO]
  unfold memF
  rw [ObjIs.key hO]
  rfl
 have h2:ofKey (srt (rootV ids)) diffK=⟨5,[],[],(ids.length:Nat)⟩::(ids.map idV).flatten:=by
  show cutA (srt (rootV ids)) (plc (getA (srt (rootV ids)) 0 diffK))=_
  rw [cut_srt hO,hO.look]
  exact list_ids ids
 unfold idsF
 rw [count_srt,h1,h2,if_pos ⟨rfl,rfl⟩]
 unfold listO
 rw [if_pos (show kindOf (⟨5,[],[],(ids.length:Nat)⟩::(ids.map idV).flatten)=5 from rfl),parts_list (ids_parts (by decide) ids) (List.length_map _)]
 have:=allO_map (f:=digO) (g:=idV) (k:=id) (ls:=ids) fun d hm=> by
  unfold digO tellF idV
  show (Dg.parse (Dg.text d))=some d
  exact Dg.parse_text d (hd d hm)
 rw [this,List.map_id]
def partsC (c:Cfg):List (List V):=[named rootK (rootV c.ids)]++(if c.hist=[] then [] else [named histK (listF (c.hist.map rowH))])
theorem parts_keysC (c:Cfg):∀z∈partsC c,keyOf z=rootK∨keyOf z=histK:=by
 intro z hz
 unfold partsC at hz
 rcases List.mem_append.1 hz with hz | hz
 ·rw [List.mem_singleton.1 hz]
  exact .inl rfl
 ·split at hz
  ·cases hz
  ·rw [List.mem_singleton.1 hz]
   exact .inr rfl
structure ConfIs (c:Cfg) (P:List (List V)) (X:List V):Prop where
 rest:ObjIs c.rest P
 noR:rootK∉P.map keyOf
 noH:histK∉P.map keyOf
 same:srt c.rest=c.rest
 obj:ObjIs X (P++partsC c)
 row:rowC c=srt X
 each:∀h∈c.hist,rightPF (rowH h)=true
 list:c.hist≠[]→rightPF (listF (c.hist.map rowH))=true
theorem ok_parts {c:Cfg} (h:okC c=true):plainF c.rest rootK histK=true∧c.ids.length≤60∧c.hist.length≤200∧(0 < c.hist.length→layersN c.hist=c.ids.length)∧∀h∈c.hist,okH h=true:=by
 unfold okC at h
 rw [Bool.and_eq_true,Bool.and_eq_true,Bool.and_eq_true,Bool.and_eq_true]at h
 exact ⟨h.1.1.1.1,of_decide_eq_true h.1.1.1.2,of_decide_eq_true h.1.1.2,of_decide_eq_true h.1.2,List.all_eq_true.1 h.2⟩
theorem row_okC (c:Cfg):rowC c=[]∨(okC c=true∧rightPF (bodyC c)=true∧rowC c=srt (bodyC c)∧rightPF (rowC c)=true):=by
 unfold rowC
 by_cases h:okC c=true
 ·rw [if_pos h]
  unfold sortA
  by_cases hr:rightPF (bodyC c)=true
  ·rw [if_pos hr]
   exact .inr ⟨h,hr,rfl,(srt_srt hr).2.1⟩
  ·rw [if_neg hr]
   exact .inl rfl
 ·rw [if_neg h]
  exact .inl rfl
theorem conf_is {c:Cfg} (hok:okC c=true) (hr:rightPF (bodyC c)=true):∃P,ConfIs c P (bodyC c):=by
 obtain ⟨h1,h2,h3,h4,h5⟩:=ok_parts hok
 obtain ⟨P,hP,n1,n2,hs⟩:=plain_is h1
 have hrow:rowC c=srt (bodyC c):=by
  unfold rowC sortA
  rw [if_pos hok,if_pos hr]
 obtain ⟨X,hX⟩:∃X,X=setA c.rest rootK (rootV c.ids):=⟨_,rfl⟩
 have hb:bodyC c=if c.hist=[] then X else setA X histK (listA (c.hist.map rowH)):=by rw [hX];rfl
 by_cases hh:c.hist=[]
 ·rw [if_pos hh]at hb
  rw [hb]at hr
  rw [hX]at hr
  have a1:=(set_new hP n1 (right_pos hr)).1
  refine ⟨P,hP,n1,n2,hs, ?_,hrow,fun h hm=> (by rw [hh]at hm;cases hm),fun h=> absurd hh h⟩
  rw [hb,hX]
  unfold partsC
  rw [if_pos hh,List.append_nil]
  exact a1
 ·rw [if_neg hh]at hb
  rw [hb]at hr
  obtain ⟨i1,i2,_,_⟩:=set_inv (right_pos hr)
  have hX0:=isO_right i1
  rw [hX]at hX0
  have a1:=(set_new hP n1 (right_pos hX0)).1
  rw [←hX]at a1
  have hli:(c.hist.map rowH).all rightPF=true∧rightPF (listF (c.hist.map rowH))=true∧listA (c.hist.map rowH)=listF (c.hist.map rowH):=by
   have h0:=right_pos i2
   unfold listA fineF at h0 ⊢
   split at h0
   next e=>
    split at h0
    next e2=> exact ⟨e,e2,by rw [if_pos e,if_pos e2]⟩
    next=> exact absurd h0 (Nat.lt_irrefl _)
   next=> exact absurd h0 (Nat.lt_irrefl _)
  have hn:histK∉(P++[named rootK (rootV c.ids)]).map keyOf:=by
   rw [List.map_append,List.mem_append]
   rintro (e | e)
   ·exact n2 e
   ·exact root_hist (List.mem_singleton.1 e).symm
  have a2:=(set_new a1 hn (right_pos hr)).1
  refine ⟨P,hP,n1,n2,hs, ?_,hrow,fun h hm=> List.all_eq_true.1 hli.1 _ (List.mem_map.2 ⟨h,hm,rfl⟩),fun _=> hli.2.1⟩
  rw [hb]
  unfold partsC
  rw [if_neg hh,←List.append_assoc,←hli.2.2]
  exact a2
theorem conf_row {c:Cfg} (hne:rowC c≠[]) (hd:DigC c):confF (rowC c)= .ok c:=by
 rcases row_okC c with e | ⟨hok,hr, -, -⟩
 ·exact absurd e hne
 obtain ⟨P,hC⟩:=conf_is hok hr
 obtain ⟨h1,h2,h3,h4,h5⟩:=ok_parts hok
 have hi:idsF (ofKey (rowC c) rootK)=some c.ids:=by
  rw [hC.row,key_back hC.obj hC.noR]
  have:look (partsC c) rootK=rootV c.ids:=by
   unfold partsC
   rw [List.singleton_append,look_cons,if_pos (show keyOf (named rootK (rootV c.ids))=rootK from rfl)]
   rfl
  rw [this]
  exact ids_row h2 hd
 have hh:histF (rowC c)=some c.hist:=by
  have hk:ofKey (rowC c) histK=srt (if c.hist=[] then [] else listF (c.hist.map rowH)):=by
   rw [hC.row,key_back hC.obj hC.noH]
   congr 1
   unfold partsC
   rw [List.singleton_append,look_cons,if_neg (show ¬keyOf (named rootK (rootV c.ids))=histK from root_hist)]
   split
   ·rfl
   ·rw [look_cons,if_pos (show keyOf (named histK (listF (c.hist.map rowH)))=histK from rfl)]
    rfl
  unfold histF
  by_cases e:c.hist=[]
  ·rw [hk,if_pos e,if_pos srt_nil,e]
  ·rw [if_neg e]at hk
   obtain ⟨ks,hp,_⟩:=whole_parts (v:=⟨5,[],[],((c.hist.map rowH).length:Nat)⟩) (P:=c.hist.map rowH) (hC.list e) (ends_all (List.all_eq_true.2 fun p hp=> by
    obtain ⟨h,hm,rfl⟩:=List.mem_map.1 hp
    exact hC.each h hm)) rfl
   have es:srt (listF (c.hist.map rowH))=⟨5,[],[],((c.hist.map rowH).length:Nat)⟩::((c.hist.map rowH).map srt).flatten:=list_srt hp rfl
   rw [hk,es,if_neg (List.cons_ne_nil _ _)]
   unfold listO
   rw [if_pos (show kindOf (⟨5,[],[],((c.hist.map rowH).length:Nat)⟩::((c.hist.map rowH).map srt).flatten)=5 from rfl),parts_list (parts_srt hp) (List.length_map _),List.map_map]
   have:=allO_map (f:=entryF) (g:=fun h=> srt (rowH h)) (k:=id) (ls:=c.hist) fun h hm=> entry_row (h5 h hm) (hC.each h hm)
   rw [List.map_id]at this
   exact this
 have hrest:srt (dropA (dropA (rowC c) rootK) histK)=c.rest:=by
  rw [hC.row]
  exact rest_back hC.rest hC.same hC.noR hC.noH hC.obj (parts_keysC c)
 unfold confF
 rw [hi,hh,hrest]
 show (if 60 < c.ids.length∨200 < c.hist.length then OutC.err 2 else if 0 < c.hist.length∧layersN c.hist≠c.ids.length then OutC.err 3 else _)=_
 rw [if_neg (by omega),if_neg (fun h=> h.2 (h4 h.1))]
end Jo
end Go.Proofs.YtgmangikcfakgaaGreatDoor
namespace Go.Proofs.YtgmangikcfakgaaGreatDoor
open Go
namespace Jo
open Jt Js
theorem list_parts {v:V} {P:List (List V)} {d:Nat} {o:Bool} {ks:List (List UInt8)} (hp:Parts d o ks P) (hn:(ks.length:Int)=v.count):partsL (v::P.flatten)=P:=by
 have hr:=parts_prog hp []
 rw [List.append_nil]at hr
 unfold partsL
 show partsP v.count.toNat P.flatten=P
 rw [←hn,Int.toNat_natCast]
 exact hr
end Jo
end Go.Proofs.YtgmangikcfakgaaGreatDoor
namespace Go.Proofs.YtgmangikcfakgaaGreatDoor
open Go
namespace Jo
open Jt Js
set_option maxRecDepth 100000
theorem get_head {L:List V} {key:List UInt8} {p:Nat} (h:getA L 0 key=some p):∃hp:p < L.length,kindOf (ofKey L key)=L[p].kind∧textOf (ofKey L key)=L[p].text:=by
 have hO:isO L=true:=by
  unfold getA at h
  split at h
  next hc=>
   unfold isO
   have h1:=hc.1
   have h2:=hc.2
   unfold placeB at h1
   rw [Bool.and_eq_true]at h1
   rw [h1.2,Bool.true_and,decide_eq_true_eq]
   exact h2
  next=> cases h
 obtain ⟨P,hP⟩:=obj_is hO
 have hg:=h
 rw [hP.get]at hg
 obtain ⟨j,hj,rfl⟩:=Option.map_eq_some_iff.1 hg
 obtain ⟨hj2,_,_⟩:=idx_some hj
 obtain ⟨hp,_,_⟩:=hP.at_ hj2
 obtain ⟨_,_,_,h0⟩:=cut_right hP.right hp
 refine ⟨hp, ?_⟩
 have e:ofKey L key=named [] ((L.drop (1+offs P j)).take (rowE L (1+offs P j))):=by
  unfold ofKey
  rw [h]
  show cutA L ((1+offs P j:Nat):Int)=_
  unfold cutA placeB
  rw [hP.right,Bool.and_true,if_pos (decide_eq_true (by omega)),Int.toNat_natCast]
 obtain ⟨k,hk⟩:∃k,rowE L (1+offs P j)=k+1:=⟨rowE L (1+offs P j) - 1,by omega⟩
 rw [e,hk,List.drop_eq_getElem_cons hp,List.take_succ_cons]
 exact ⟨rfl,rfl⟩
theorem mem_is {L:List V} {key:List UInt8} {p:Nat} (h:getA L 0 key=some p) {hp:p < L.length} (k:Int):memF L key k=if L[p].kind=k then some L[p].text else none:=by
 obtain ⟨_,h1,h2⟩:=get_head h
 unfold memF tellF
 rw [h1,h2]
theorem mem_none {L:List V} {key:List UInt8} (h:getA L 0 key=none) {k:Int} (hk:k≠ -1):memF L key k=none:=by
 unfold memF tellF
 rw [key_none h]
 exact if_neg fun e=> hk e.symm
theorem offs_succ:∀ {P:List (List V)} {j:Nat} (hj:j < P.length),offs P (j+1)=offs P j+P[j].length
 | p::P,0,_=> by rw [offs_cons,offs_zero,offs_zero];simp
 | p::P,j+1,hj=> by
  rw [offs_cons,offs_cons,offs_succ (P:=P) (j:=j) (by simpa using hj)]
  simp only [List.getElem_cons_succ]
  omega
theorem offs_all (P:List (List V)):offs P P.length=P.flatten.length:=by unfold offs;rw [List.take_length]
structure LstIs (L:List V) (P:List (List V)):Prop where
 eq:∃v,v.kind=5∧L=v::P.flatten
 ends:Ends P
 parts:partsL L=P
 len:L.length≤5000
theorem lst_is {v:V} {r:List V} (hr:rightPF (v::r)=true) (h5:v.kind=5):∃P,LstIs (v::r) P:=by
 obtain ⟨u,P,e,he,hn,_,⟨ks,_,hp,_⟩,hl⟩:=right_whole hr
 obtain ⟨rfl,rfl⟩:=List.cons.inj e
 refine ⟨P,⟨v,h5,rfl⟩,he, ?_,hl⟩
 have hq:=parts_prog hp []
 rw [List.append_nil,←hp.len]at hq
 unfold partsL
 show partsP v.count.toNat P.flatten=P
 rw [←hn,Int.toNat_natCast]
 exact hq
theorem LstIs.all {L:List V} {P:List (List V)} (h:LstIs L P):1+offs P P.length=L.length:=by
 obtain ⟨v,_,e⟩:=h.eq
 rw [offs_all,e,List.length_cons]
 omega
theorem ends_few:∀ {P:List (List V)},Ends P→P.length≤P.flatten.length
 | [],_=> Nat.le_refl _
 | p::P,h=> by
  have:=h.pos (p:=p) List.mem_cons_self
  have:=ends_few h.tail
  rw [List.flatten_cons,List.length_append,List.length_cons]
  omega
theorem LstIs.few {L:List V} {P:List (List V)} (h:LstIs L P):P.length≤5000:=by
 have h1:=h.all
 have h2:=h.len
 have h3:=ends_few h.ends
 rw [offs_all]at h1
 omega
theorem parts_bare {d:Nat} {ks:List (List UInt8)} {P:List (List V)} (h:Parts d false ks P):∀p∈P,Js.keyOf p=[]:=by
 induction h with
 | nil=> exact fun _ h=> by cases h
 | cons h1 _ ih=>
  intro p hp
  rcases List.mem_cons.1 hp with rfl | hp
  ·exact h1.own.1 rfl
  ·exact ih p hp
theorem quote_plain:∀s:List UInt8,(∀a∈s,40≤a.toNat∧a.toNat < 92∨93≤a.toNat∧a.toNat < 127)→quoteB s=s
 | [],_=> quote_nil
 | a::r,h=> by
  have ha:=h a List.mem_cons_self
  have hs:scalar a.toNat=true:=scalar_is.2 (.inl (by omega))
  have hb:bytesF a.toNat=[a]:=by
   unfold bytesF
   rw [if_pos (by omega),UInt8.ofNat_toNat]
  have ho:Jt.oneF a.toNat=[a]:=by
   unfold Jt.oneF
   rw [if_neg (by omega),if_neg (by omega),if_neg (by omega),if_neg (by omega),if_neg (by omega),if_neg (by omega),if_neg (by omega),if_neg (by omega),hb]
  have:=quote_ch hs r
  rw [hb,if_pos (by omega),ho,quote_plain r fun x hx=> h x (List.mem_cons_of_mem _ hx)]at this
  exact this
theorem quoteF_plain {s:List UInt8} (h:∀a∈s,40≤a.toNat∧a.toNat < 92∨93≤a.toNat∧a.toNat < 127):quoteF s=34::(s++[34]):=by
 unfold quoteF
 rw [quote_plain s h]
theorem head_char {k:List UInt8} (h:∀a∈k,40≤a.toNat∧a.toNat < 92∨93≤a.toNat∧a.toNat < 127) {v:V} (hk:v.key=k) (t:List UInt8):item true v t=(34::(k++[34]))++58::body v t:=by
 unfold item
 rw [if_pos rfl,hk,quoteF_plain h]
end Jo
end Go.Proofs.YtgmangikcfakgaaGreatDoor
