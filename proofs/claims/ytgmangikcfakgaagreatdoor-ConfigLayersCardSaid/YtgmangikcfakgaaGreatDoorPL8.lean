import Derived.Test.YtgmangikcfakgaaGreatDoorPL7
import Derived.Test.YtgmangikcfakgaaGreatDoorPL6
namespace Go.Proofs.YtgmangikcfakgaaGreatDoor
open Go
namespace Jo
open Jt Js
theorem type_valid:validF typeK=true:=valid_ascii _ (by decide)
theorem diff_valid:validF diffK=true:=valid_ascii _ (by decide)
theorem root_valid:validF rootK=true:=valid_ascii _ (by decide)
theorem hist_valid:validF histK=true:=valid_ascii _ (by decide)
theorem by_valid:validF byK=true:=valid_ascii _ (by decide)
theorem empty_valid:validF emptyK=true:=valid_ascii _ (by decide)
theorem root_hist:rootK≠histK:=by decide
theorem ids_parts {d:Nat} (hd:d < 50):∀ids:List (List UInt8),Parts d false (ids.map fun _=> []) (ids.map idV)
 | []=> .nil
 | x::r=> .cons (one_str hd (fun _=> rfl) valid_none (text_valid x)) (ids_parts hd r)
theorem flat_ids:∀ids:List (List UInt8),(ids.map idV).flatten.length=ids.length
 | []=> rfl
 | x::r=> by
  rw [List.map_cons,List.flatten_cons,List.length_append,flat_ids r,List.length_cons]
  show 1+_=_
  omega
def rootP (ids:List (List UInt8)):List (List V):=[[⟨4,typeK,layersK,0⟩],⟨5,diffK,[],(ids.length:Nat)⟩::(ids.map idV).flatten]
theorem root_flat (ids:List (List UInt8)):rootV ids=⟨6,[],[],2⟩::(rootP ids).flatten:=by
 unfold rootV rootP
 simp
theorem root_len (ids:List (List UInt8)):(rootV ids).length=3+ids.length:=by
 unfold rootV
 rw [List.length_cons,List.length_cons,List.length_cons,flat_ids]
 omega
theorem root_parts {n:Nat} (hn:n < 48) (ids:List (List UInt8)):Parts (n+1) true [typeK,diffK] (rootP ids):=by
 obtain ⟨t,ht⟩:=one_list (d:=n+1) (o:=true) (key:=diffK) (by omega) (fun h=> by cases h) diff_valid (ids_parts (d:=n+2) (by omega) ids) (List.length_map _)
 exact .cons (one_str (by omega) (fun h=> by cases h) type_valid layers_valid) (.cons ht .nil)
theorem root_one (ids:List (List UInt8)) {key:List UInt8} {n:Nat} {o:Bool} (ho:o=false→key=[]) (hk:validF key=true) (hn:n < 48):∃t,One n o ⟨6,key,[],2⟩ (rootP ids).flatten t:=by
 obtain ⟨t,ht⟩:=(root_parts hn ids).rows
 exact ⟨t,⟨ho,hk, .inr (.inr (.inr ⟨.inr rfl,rfl,(show (0:Int)≤2 by decide)⟩))⟩,by omega,_,ht,rfl,fun _=> by decide⟩
theorem root_right {ids:List (List UInt8)} (hl:ids.length≤60):rightPF (rootV ids)=true:=by
 obtain ⟨t,ht⟩:=root_one ids (key:=[]) (n:=0) (o:=false) (fun _=> rfl) valid_none (by decide)
 have h:=root_len ids
 rw [root_flat]at h ⊢
 rw [List.length_cons]at h
 exact one_right ht (by omega)
theorem root_is {ids:List (List UInt8)} (hl:ids.length≤60):ObjIs (rootV ids) (rootP ids):=by
 have h:=root_right hl
 rw [root_flat]at h ⊢
 exact ObjIs.of (n:=2) rfl h (parts_ends (root_parts (n:=0) (by decide) ids))
theorem list_ids (ids:List (List UInt8)):srt (⟨5,[],[],(ids.length:Nat)⟩::(ids.map idV).flatten)=⟨5,[],[],(ids.length:Nat)⟩::(ids.map idV).flatten:=by
 have e:(ids.map idV).map srt=ids.map idV:=by
  rw [List.map_map]
  exact List.map_congr_left fun d _=> srt_one _ _
 rw [list_srt (ids_parts (by decide) ids) (List.length_map _),e]
theorem ids_row {ids:List (List UInt8)} (hl:ids.length≤60) (hd:∀d∈ids,d.length=32):idsF (srt (rootV ids))=some ids:=by
 have hO:=root_is hl
 have h1:memF (srt (rootV ids)) typeK 4=some layersK:=by
  rw [mem_srt hO]
  unfold memF
  rw [ObjIs.key hO]
  rfl
 have h2:ofKey (srt (rootV ids)) diffK=⟨5,[],[],(ids.length:Nat)⟩::(ids.map idV).flatten:=by
  show cutA (srt (rootV ids)) (plc (getA (srt (rootV ids)) 0 diffK))=_
  rw [cut_srt hO,hO.look]
  exact list_ids ids
 unfold idsF
 rw [count_srt,h1,h2,if_pos ⟨rfl,rfl⟩]
 unfold listO
 rw [if_pos (show kindOf (⟨5,[],[],(ids.length:Nat)⟩::(ids.map idV).flatten)=5 from rfl),parts_list (ids_parts (by decide) ids) (List.length_map _)]
 have:=allO_map (f:=digO) (g:=idV) (k:=id) (ls:=ids) fun d hm=> by
  unfold digO tellF idV
  show (Dg.parse (Dg.text d))=some d
  exact Dg.parse_text d (hd d hm)
 rw [this,List.map_id]
def partsC (c:Cfg):List (List V):=[named rootK (rootV c.ids)]++(if c.hist=[] then [] else [named histK (listF (c.hist.map rowH))])
theorem parts_keysC (c:Cfg):∀z∈partsC c,keyOf z=rootK∨keyOf z=histK:=by
 intro z hz
 unfold partsC at hz
 rcases List.mem_append.1 hz with hz | hz
 ·rw [List.mem_singleton.1 hz]
  exact .inl rfl
 ·split at hz
  ·cases hz
  ·rw [List.mem_singleton.1 hz]
   exact .inr rfl
structure ConfIs (c:Cfg) (P:List (List V)) (X:List V):Prop where
 rest:ObjIs c.rest P
 noR:rootK∉P.map keyOf
 noH:histK∉P.map keyOf
 same:srt c.rest=c.rest
 obj:ObjIs X (P++partsC c)
 row:rowC c=srt X
 each:∀h∈c.hist,rightPF (rowH h)=true
 list:c.hist≠[]→rightPF (listF (c.hist.map rowH))=true
theorem ok_parts {c:Cfg} (h:okC c=true):plainF c.rest rootK histK=true∧c.ids.length≤60∧c.hist.length≤200∧(0 < c.hist.length→layersN c.hist=c.ids.length)∧∀h∈c.hist,okH h=true:=by
 unfold okC at h
 rw [Bool.and_eq_true,Bool.and_eq_true,Bool.and_eq_true,Bool.and_eq_true]at h
 exact ⟨h.1.1.1.1,of_decide_eq_true h.1.1.1.2,of_decide_eq_true h.1.1.2,of_decide_eq_true h.1.2,List.all_eq_true.1 h.2⟩
theorem row_okC (c:Cfg):rowC c=[]∨(okC c=true∧rightPF (bodyC c)=true∧rowC c=srt (bodyC c)∧rightPF (rowC c)=true):=by
 unfold rowC
 by_cases h:okC c=true
 ·rw [if_pos h]
  unfold sortA
  by_cases hr:rightPF (bodyC c)=true
  ·rw [if_pos hr]
   exact .inr ⟨h,hr,rfl,(srt_srt hr).2.1⟩
  ·rw [if_neg hr]
   exact .inl rfl
 ·rw [if_neg h]
  exact .inl rfl
theorem conf_is {c:Cfg} (hok:okC c=true) (hr:rightPF (bodyC c)=true):∃P,ConfIs c P (bodyC c):=by
 obtain ⟨h1,h2,h3,h4,h5⟩:=ok_parts hok
 obtain ⟨P,hP,n1,n2,hs⟩:=plain_is h1
 have hrow:rowC c=srt (bodyC c):=by
  unfold rowC sortA
  rw [if_pos hok,if_pos hr]
 obtain ⟨X,hX⟩:∃X,X=setA c.rest rootK (rootV c.ids):=⟨_,rfl⟩
 have hb:bodyC c=if c.hist=[] then X else setA X histK (listA (c.hist.map rowH)):=by rw [hX];rfl
 by_cases hh:c.hist=[]
 ·rw [if_pos hh]at hb
  rw [hb]at hr
  rw [hX]at hr
  have a1:=(set_new hP n1 (right_pos hr)).1
  refine ⟨P,hP,n1,n2,hs, ?_,hrow,fun h hm=> (by rw [hh]at hm;cases hm),fun h=> absurd hh h⟩
  rw [hb,hX]
  unfold partsC
  rw [if_pos hh,List.append_nil]
  exact a1
 ·rw [if_neg hh]at hb
  rw [hb]at hr
  obtain ⟨i1,i2,_,_⟩:=set_inv (right_pos hr)
  have hX0:=isO_right i1
  rw [hX]at hX0
  have a1:=(set_new hP n1 (right_pos hX0)).1
  rw [←hX]at a1
  have hli:(c.hist.map rowH).all rightPF=true∧rightPF (listF (c.hist.map rowH))=true∧listA (c.hist.map rowH)=listF (c.hist.map rowH):=by
   have h0:=right_pos i2
   unfold listA fineF at h0 ⊢
   split at h0
   next e=>
    split at h0
    next e2=> exact ⟨e,e2,by rw [if_pos e,if_pos e2]⟩
    next=> exact absurd h0 (Nat.lt_irrefl _)
   next=> exact absurd h0 (Nat.lt_irrefl _)
  have hn:histK∉(P++[named rootK (rootV c.ids)]).map keyOf:=by
   rw [List.map_append,List.mem_append]
   rintro (e | e)
   ·exact n2 e
   ·exact root_hist (List.mem_singleton.1 e).symm
  have a2:=(set_new a1 hn (right_pos hr)).1
  refine ⟨P,hP,n1,n2,hs, ?_,hrow,fun h hm=> List.all_eq_true.1 hli.1 _ (List.mem_map.2 ⟨h,hm,rfl⟩),fun _=> hli.2.1⟩
  rw [hb]
  unfold partsC
  rw [if_neg hh,←List.append_assoc,←hli.2.2]
  exact a2
theorem conf_row {c:Cfg} (hne:rowC c≠[]) (hd:DigC c):confF (rowC c)= .ok c:=by
 rcases row_okC c with e | ⟨hok,hr, -, -⟩
 ·exact absurd e hne
 obtain ⟨P,hC⟩:=conf_is hok hr
 obtain ⟨h1,h2,h3,h4,h5⟩:=ok_parts hok
 have hi:idsF (ofKey (rowC c) rootK)=some c.ids:=by
  rw [hC.row,key_back hC.obj hC.noR]
  have:look (partsC c) rootK=rootV c.ids:=by
   unfold partsC
   rw [List.singleton_append,look_cons,if_pos (show keyOf (named rootK (rootV c.ids))=rootK from rfl)]
   rfl
  rw [this]
  exact ids_row h2 hd
 have hh:histF (rowC c)=some c.hist:=by
  have hk:ofKey (rowC c) histK=srt (if c.hist=[] then [] else listF (c.hist.map rowH)):=by
   rw [hC.row,key_back hC.obj hC.noH]
   congr 1
   unfold partsC
   rw [List.singleton_append,look_cons,if_neg (show ¬keyOf (named rootK (rootV c.ids))=histK from root_hist)]
   split
   ·rfl
   ·rw [look_cons,if_pos (show keyOf (named histK (listF (c.hist.map rowH)))=histK from rfl)]
    rfl
  unfold histF
  by_cases e:c.hist=[]
  ·rw [hk,if_pos e,if_pos srt_nil,e]
  ·rw [if_neg e]at hk
   obtain ⟨ks,hp,_⟩:=whole_parts (v:=⟨5,[],[],((c.hist.map rowH).length:Nat)⟩) (P:=c.hist.map rowH) (hC.list e) (ends_all (List.all_eq_true.2 fun p hp=> by
    obtain ⟨h,hm,rfl⟩:=List.mem_map.1 hp
    exact hC.each h hm)) rfl
   have es:srt (listF (c.hist.map rowH))=⟨5,[],[],((c.hist.map rowH).length:Nat)⟩::((c.hist.map rowH).map srt).flatten:=list_srt hp rfl
   rw [hk,es,if_neg (List.cons_ne_nil _ _)]
   unfold listO
   rw [if_pos (show kindOf (⟨5,[],[],((c.hist.map rowH).length:Nat)⟩::((c.hist.map rowH).map srt).flatten)=5 from rfl),parts_list (parts_srt hp) (List.length_map _),List.map_map]
   have:=allO_map (f:=entryF) (g:=fun h=> srt (rowH h)) (k:=id) (ls:=c.hist) fun h hm=> entry_row (h5 h hm) (hC.each h hm)
   rw [List.map_id]at this
   exact this
 have hrest:srt (dropA (dropA (rowC c) rootK) histK)=c.rest:=by
  rw [hC.row]
  exact rest_back hC.rest hC.same hC.noR hC.noH hC.obj (parts_keysC c)
 unfold confF
 rw [hi,hh,hrest]
 show (if 60 < c.ids.length∨200 < c.hist.length then OutC.err 2 else if 0 < c.hist.length∧layersN c.hist≠c.ids.length then OutC.err 3 else _)=_
 rw [if_neg (by omega),if_neg (fun h=> h.2 (h4 h.1))]
end Jo
end Go.Proofs.YtgmangikcfakgaaGreatDoor
namespace Go.Proofs.YtgmangikcfakgaaGreatDoor
open Go
namespace Jo
open Jt Js
theorem list_parts {v:V} {P:List (List V)} {d:Nat} {o:Bool} {ks:List (List UInt8)} (hp:Parts d o ks P) (hn:(ks.length:Int)=v.count):partsL (v::P.flatten)=P:=by
 have hr:=parts_prog hp []
 rw [List.append_nil]at hr
 unfold partsL
 show partsP v.count.toNat P.flatten=P
 rw [←hn,Int.toNat_natCast]
 exact hr
end Jo
end Go.Proofs.YtgmangikcfakgaaGreatDoor
namespace Go.Proofs.YtgmangikcfakgaaGreatDoor
open Go
namespace Jo
open Jt Js
set_option maxRecDepth 100000
theorem get_head {L:List V} {key:List UInt8} {p:Nat} (h:getA L 0 key=some p):∃hp:p < L.length,kindOf (ofKey L key)=L[p].kind∧textOf (ofKey L key)=L[p].text:=by
 have hO:isO L=true:=by
  unfold getA at h
  split at h
  next hc=>
   unfold isO
   have h1:=hc.1
   have h2:=hc.2
   unfold placeB at h1
   rw [Bool.and_eq_true]at h1
   rw [h1.2,Bool.true_and,decide_eq_true_eq]
   exact h2
  next=> cases h
 obtain ⟨P,hP⟩:=obj_is hO
 have hg:=h
 rw [hP.get]at hg
 obtain ⟨j,hj,rfl⟩:=Option.map_eq_some_iff.1 hg
 obtain ⟨hj2,_,_⟩:=idx_some hj
 obtain ⟨hp,_,_⟩:=hP.at_ hj2
 obtain ⟨_,_,_,h0⟩:=cut_right hP.right hp
 refine ⟨hp, ?_⟩
 have e:ofKey L key=named [] ((L.drop (1+offs P j)).take (rowE L (1+offs P j))):=by
  unfold ofKey
  rw [h]
  show cutA L ((1+offs P j:Nat):Int)=_
  unfold cutA placeB
  rw [hP.right,Bool.and_true,if_pos (decide_eq_true (by omega)),Int.toNat_natCast]
 obtain ⟨k,hk⟩:∃k,rowE L (1+offs P j)=k+1:=⟨rowE L (1+offs P j) - 1,by omega⟩
 rw [e,hk,List.drop_eq_getElem_cons hp,List.take_succ_cons]
 exact ⟨rfl,rfl⟩
theorem mem_is {L:List V} {key:List UInt8} {p:Nat} (h:getA L 0 key=some p) {hp:p < L.length} (k:Int):memF L key k=if L[p].kind=k then some L[p].text else none:=by
 obtain ⟨_,h1,h2⟩:=get_head h
 unfold memF tellF
 rw [h1,h2]
theorem mem_none {L:List V} {key:List UInt8} (h:getA L 0 key=none) {k:Int} (hk:k≠ -1):memF L key k=none:=by
 unfold memF tellF
 rw [key_none h]
 exact if_neg fun e=> hk e.symm
theorem offs_succ:∀ {P:List (List V)} {j:Nat} (hj:j < P.length),offs P (j+1)=offs P j+P[j].length
 | p::P,0,_=> by rw [offs_cons,offs_zero,offs_zero];simp
 | p::P,j+1,hj=> by
  rw [offs_cons,offs_cons,offs_succ (P:=P) (j:=j) (by simpa using hj)]
  simp only [List.getElem_cons_succ]
  omega
theorem offs_all (P:List (List V)):offs P P.length=P.flatten.length:=by unfold offs;rw [List.take_length]
structure LstIs (L:List V) (P:List (List V)):Prop where
 eq:∃v,v.kind=5∧L=v::P.flatten
 ends:Ends P
 parts:partsL L=P
 len:L.length≤5000
theorem lst_is {v:V} {r:List V} (hr:rightPF (v::r)=true) (h5:v.kind=5):∃P,LstIs (v::r) P:=by
 obtain ⟨u,P,e,he,hn,_,⟨ks,_,hp,_⟩,hl⟩:=right_whole hr
 obtain ⟨rfl,rfl⟩:=List.cons.inj e
 refine ⟨P,⟨v,h5,rfl⟩,he, ?_,hl⟩
 have hq:=parts_prog hp []
 rw [List.append_nil,←hp.len]at hq
 unfold partsL
 show partsP v.count.toNat P.flatten=P
 rw [←hn,Int.toNat_natCast]
 exact hq
theorem LstIs.all {L:List V} {P:List (List V)} (h:LstIs L P):1+offs P P.length=L.length:=by
 obtain ⟨v,_,e⟩:=h.eq
 rw [offs_all,e,List.length_cons]
 omega
theorem ends_few:∀ {P:List (List V)},Ends P→P.length≤P.flatten.length
 | [],_=> Nat.le_refl _
 | p::P,h=> by
  have:=h.pos (p:=p) List.mem_cons_self
  have:=ends_few h.tail
  rw [List.flatten_cons,List.length_append,List.length_cons]
  omega
theorem LstIs.few {L:List V} {P:List (List V)} (h:LstIs L P):P.length≤5000:=by
 have h1:=h.all
 have h2:=h.len
 have h3:=ends_few h.ends
 rw [offs_all]at h1
 omega
theorem parts_bare {d:Nat} {ks:List (List UInt8)} {P:List (List V)} (h:Parts d false ks P):∀p∈P,Js.keyOf p=[]:=by
 induction h with
 | nil=> exact fun _ h=> by cases h
 | cons h1 _ ih=>
  intro p hp
  rcases List.mem_cons.1 hp with rfl | hp
  ·exact h1.own.1 rfl
  ·exact ih p hp
theorem quote_plain:∀s:List UInt8,(∀a∈s,40≤a.toNat∧a.toNat < 92∨93≤a.toNat∧a.toNat < 127)→quoteB s=s
 | [],_=> quote_nil
 | a::r,h=> by
  have ha:=h a List.mem_cons_self
  have hs:scalar a.toNat=true:=scalar_is.2 (.inl (by omega))
  have hb:bytesF a.toNat=[a]:=by
   unfold bytesF
   rw [if_pos (by omega),UInt8.ofNat_toNat]
  have ho:Jt.oneF a.toNat=[a]:=by
   unfold Jt.oneF
   rw [if_neg (by omega),if_neg (by omega),if_neg (by omega),if_neg (by omega),if_neg (by omega),if_neg (by omega),if_neg (by omega),if_neg (by omega),hb]
  have:=quote_ch hs r
  rw [hb,if_pos (by omega),ho,quote_plain r fun x hx=> h x (List.mem_cons_of_mem _ hx)]at this
  exact this
theorem quoteF_plain {s:List UInt8} (h:∀a∈s,40≤a.toNat∧a.toNat < 92∨93≤a.toNat∧a.toNat < 127):quoteF s=34::(s++[34]):=by
 unfold quoteF
 rw [quote_plain s h]
theorem head_char {k:List UInt8} (h:∀a∈k,40≤a.toNat∧a.toNat < 92∨93≤a.toNat∧a.toNat < 127) {v:V} (hk:v.key=k) (t:List UInt8):item true v t=(34::(k++[34]))++58::body v t:=by
 unfold item
 rw [if_pos rfl,hk,quoteF_plain h]
end Jo
end Go.Proofs.YtgmangikcfakgaaGreatDoor
