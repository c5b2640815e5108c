import Derived.Test.YtmkjcleecjjchaaGreatDoorP4
import Derived.Test.YtmkjcleecjjchaaGreatDoorP3
import Derived.Test.YtmkjcleecjjchaaGreatDoorP0
namespace Go.Proofs.YtmkjcleecjjchaaGreatDoor
open Go
namespace Jo
open Jt Js
def srt (l:List V):List V:=sortF l.length l
def textOf:List V→List UInt8
 | []=> []
 | v::_=> v.text
theorem named_sort (key:List UInt8) (f:Nat) (l:List V):sortF f (named key l)=named key (sortF f l):=by
 match f,l with
 | 0,_=> rfl
 | f+1,[]=> rfl
 | f+1,v::r=> rfl
theorem srt_named (key:List UInt8) (l:List V):srt (named key l)=named key (srt l):=by
 unfold srt
 rw [named_len,named_sort]
theorem key_srt (l:List V):keyOf (srt l)=keyOf l:=by cases l <;> rfl
theorem kind_srt (l:List V):kindOf (srt l)=kindOf l:=by cases l <;> rfl
theorem text_srt (l:List V):textOf (srt l)=textOf l:=by cases l <;> rfl
theorem count_srt (l:List V):countOf (srt l)=countOf l:=by cases l <;> rfl
theorem parts_ends {d:Nat} {o:Bool} {ks:List (List UInt8)} {P:List (List V)} (h:Parts d o ks P):Ends P:=by
 induction h with
 | nil=> exact fun _ hp=> by cases hp
 | @cons v l t ks P h r ih=>
  intro p hp
  rcases List.mem_cons.1 hp with rfl | hp
  ·have:=endP_one h []
   rw [List.append_nil]at this
   exact this
  ·exact ih p hp
theorem parts_srt {d:Nat} {o:Bool} {ks:List (List UInt8)} {P:List (List V)} (h:Parts d o ks P):Parts d o ks (P.map srt):=by
 induction h with
 | nil=> exact .nil
 | @cons v l t ks P h r ih=>
  obtain ⟨l',t',e1,e2,_⟩:=sort_one (v::l).length d o v l t (Nat.le_refl _) h
  rw [List.map_cons]
  have e:srt (v::l)=v::l':=e1
  rw [e]
  exact .cons e2.one ih
theorem parts_map {d:Nat} {o:Bool} {ks:List (List UInt8)} {P:List (List V)} (h:Parts d o ks P):∀ {f:Nat},P.flatten.length≤f→P.map (sortF f)=P.map srt:=by
 induction h with
 | nil=> exact fun _=> rfl
 | @cons v l t ks P h r ih=>
  intro f hf
  rw [List.flatten_cons,List.length_append,List.length_cons]at hf
  rw [List.map_cons,List.map_cons,ih (by omega),sort_fuel f (l.length+1) d o v l t (by omega) (Nat.le_refl _) h]
  rfl
theorem ObjIs.srt {L:List V} {P:List (List V)} (h:ObjIs L P):ObjIs (srt L) (ordF (P.map srt)):=by
 obtain ⟨ks,hp⟩:=h.parts
 have hlen:(ordF (P.map Jo.srt)).length=P.length:=by rw [←(ord_perm _).length_eq,List.length_map]
 have hr:=hp.read []
 rw [List.append_nil]at hr
 have e:Jo.srt L=⟨6,[],[],(P.length:Nat)⟩::(ordF (P.map Jo.srt)).flatten:=by
  unfold Jo.srt
  rw [h.eq,List.length_cons,sortF]
  dsimp only
  rw [Int.toNat_natCast,hp.len,hr,←hp.len,parts_map hp (Nat.le_refl _),if_pos (show isObj _=true from rfl)]
  rfl
 have hright:rightPF (Jo.srt L)=true:=by
  obtain ⟨t,ht⟩:=(prog_is L).1 h.right
  obtain ⟨t',h1,_⟩:=sort_row ht
  exact (prog_is _).2 ⟨t',h1⟩
 obtain ⟨ks2,_,hp2⟩:=Parts.perm (ord_perm (P.map Jo.srt)) (parts_srt hp)
 rw [e]at hright ⊢
 exact ObjIs.of hlen.symm hright (parts_ends hp2)
theorem look_mem:∀ {P:List (List V)} {key:List UInt8} {p:List V},(P.map keyOf).Nodup→p∈P→keyOf p=key→look P key=named [] p
 | q::P,key,p,hn,hm,hk=> by
  rw [List.map_cons,List.nodup_cons]at hn
  rw [look_cons]
  rcases List.mem_cons.1 hm with rfl | hm
  ·rw [if_pos hk]
  ·rw [if_neg (fun e=> hn.1 (List.mem_map.2 ⟨p,hm,hk.trans e.symm⟩))]
   exact look_mem hn.2 hm hk
theorem look_no {P:List (List V)} {key:List UInt8} (h:key∉P.map keyOf):look P key=[]:=by
 unfold look
 rw [idx_none.2 h]
theorem look_perm {P Q:List (List V)} (key:List UInt8) (h:P.Perm Q) (hn:(P.map keyOf).Nodup):look P key=look Q key:=by
 by_cases hm:key∈P.map keyOf
 ·obtain ⟨p,hp,hk⟩:=List.mem_map.1 hm
  rw [look_mem hn hp hk,look_mem ((h.map keyOf).nodup_iff.1 hn) (h.mem_iff.1 hp) hk]
 ·rw [look_no hm,look_no (fun h2=> hm ((h.map keyOf).mem_iff.2 h2))]
theorem look_srt (key:List UInt8):∀P:List (List V),look (P.map srt) key=srt (look P key)
 | []=> rfl
 | p::P=> by
  rw [List.map_cons,look_cons,look_cons,key_srt,look_srt key P]
  split
  ·rw [srt_named]
  ·rfl
theorem map_keys (P:List (List V)):(P.map srt).map keyOf=P.map keyOf:=by
 rw [List.map_map]
 exact List.map_congr_left fun p _=> key_srt p
theorem cut_srt {L:List V} {P:List (List V)} (h:ObjIs L P) (key:List UInt8):cutA (srt L) (plc (getA (srt L) 0 key))=srt (cutA L (plc (getA L 0 key))):=by
 rw [(ObjIs.srt h).look,h.look,←look_perm key (ord_perm _) (by rw [map_keys];exact h.nodup),look_srt]
def butF (key:List UInt8) (P:List (List V)):List (List V):=P.filter fun p=> decide (keyOf p≠key)
theorem but_keep {key:List UInt8} {p:List V} (h:keyOf p≠key) (P:List (List V)):butF key (p::P)=p::butF key P:=by
 unfold butF
 rw [List.filter_cons,if_pos (by exact decide_eq_true h)]
theorem but_skip {key:List UInt8} {p:List V} (h:keyOf p=key) (P:List (List V)):butF key (p::P)=butF key P:=by
 unfold butF
 rw [List.filter_cons,if_neg (by rw [decide_eq_true_eq];exact fun e=> e h)]
theorem but_none:∀ {P:List (List V)} {key:List UInt8},key∉P.map keyOf→butF key P=P:=by
 intro P key h
 refine List.filter_eq_self.2 fun p hp=> decide_eq_true fun e=> h (List.mem_map.2 ⟨p,hp,e⟩)
theorem erase_but:∀ {P:List (List V)} {key:List UInt8} {j:Nat},(P.map keyOf).Nodup→idxF key P=some j→P.eraseIdx j=butF key P
 | p::P,key,j,hn,h=> by
  rw [List.map_cons,List.nodup_cons]at hn
  rw [idxF]at h
  split at h
  next hk=>
   cases h
   rw [List.eraseIdx_cons_zero,but_skip hk]
   exact (but_none (by rw [←hk];exact hn.1)).symm
  next hk=>
   obtain ⟨i,hi,rfl⟩:=Option.map_eq_some_iff.1 h
   rw [List.eraseIdx_cons_succ,but_keep hk,erase_but hn.2 hi]
theorem ObjIs.but {L:List V} {P:List (List V)} (h:ObjIs L P) (key:List UInt8):ObjIs (dropA L key) (butF key P):=by
 cases hi:idxF key P with
 | none=>
  rw [h.drop0 hi,but_none (idx_none.1 hi)]
  exact h
 | some j=>
  rw [←erase_but h.nodup hi]
  exact h.dropIs hi
theorem but_keys (key:List UInt8) (P:List (List V)):key∉(butF key P).map keyOf:=fun hm=> by
 obtain ⟨p,hp,hk⟩:=List.mem_map.1 hm
 exact of_decide_eq_true (List.mem_filter.1 hp).2 hk
theorem but_sub (key:List UInt8) (P:List (List V)) {k:List UInt8} (h:k∉P.map keyOf):k∉(butF key P).map keyOf:=fun hm=> by
 obtain ⟨p,hp,hk⟩:=List.mem_map.1 hm
 exact h (List.mem_map.2 ⟨p,(List.mem_filter.1 hp).1,hk⟩)
theorem parts_app {d:Nat} {o:Bool} {ks ks2:List (List UInt8)} {P Q:List (List V)} (h:Parts d o ks P) (h2:Parts d o ks2 Q):Parts d o (ks++ks2) (P++Q):=by
 induction h with
 | nil=> exact h2
 | cons h _ ih=> exact .cons h ih
theorem ObjIs.perm {L:List V} {P Q:List (List V)} (h:ObjIs L P) (hp:P.Perm Q):ObjIs (⟨6,[],[],(Q.length:Nat)⟩::Q.flatten) Q:=by
 obtain ⟨ks,hk⟩:=h.parts
 obtain ⟨ks2,h1,h2⟩:=Parts.perm hp hk
 have hn:ks2.Nodup:=h1.nodup_iff.1 (by rw [←parts_keys hk];exact h.nodup)
 refine ObjIs.of rfl (whole_right (own_obj _) h2 rfl (fun _=> hn) ?_) (parts_ends h2)
 have:=right_short h.right
 rw [h.eq,List.length_cons]at this
 rw [List.length_cons,←hp.flatten.length_eq]
 exact this
theorem ObjIs.same {L M:List V} {P:List (List V)} (h:ObjIs L P) (h2:ObjIs M P):L=M:=h.eq.trans h2.eq.symm
theorem srt_perm {L M:List V} {P Q:List (List V)} (h:ObjIs L P) (h2:ObjIs M Q) (hp:P.Perm Q):srt L=srt M:=by
 have e:ordF (P.map srt)=ordF (Q.map srt):=by
  refine rise_one _ _ ((ord_perm _).symm.trans ((hp.map srt).trans (ord_perm _))) (ord_rise _ ?_) (ord_rise _ ?_)
  ·rw [map_keys];exact h.nodup
  ·rw [map_keys];exact h2.nodup
 have h3:=ObjIs.srt h2
 rw [←e]at h3
 exact (ObjIs.srt h).same h3
theorem srt_srt {L:List V} (h:rightPF L=true):srt (srt L)=srt L∧rightPF (srt L)=true∧(srt L).length=L.length:=by
 obtain ⟨t,ht⟩:=(prog_is L).1 h
 obtain ⟨t',h1,h2,_,h3⟩:=sort_row ht
 refine ⟨?_,(prog_is _).2 ⟨t',h1⟩,h2⟩
 show sortF (sortF L.length L).length (sortF L.length L)=_
 rw [h2]
 exact h3
theorem ObjIs.add {L:List V} {P:List (List V)} (h:ObjIs L P) {key:List UInt8} {v:V} {l:List V} {t:List UInt8} (hM:rightPF (v::l)=true) (ho:One 1 true {v with key:=key} l t) (hg:key∉P.map keyOf) (hl:L.length+(l.length+1)≤5000):
  ObjIs (setA L key (v::l)) (P++[{v with key:=key}::l])∧(setA L key (v::l)).length=L.length+(l.length+1):=by
 obtain ⟨ks,hk⟩:=h.parts
 have h2:Parts 1 true (ks++[key]) (P++[{v with key:=key}::l]):=parts_app hk (.cons ho .nil)
 have hn:(ks++[key]).Nodup:=by
  have e:=parts_keys hk
  rw [←e,List.nodup_append]
  exact ⟨h.nodup,List.nodup_cons.2 ⟨List.not_mem_nil,List.nodup_nil⟩,fun a ha b hb e2=> hg (by rw [←List.mem_singleton.1 hb,←e2];exact ha)⟩
 have es:setF L key (v::l)=⟨6,[],[],((P++[{v with key:=key}::l]).length:Nat)⟩::(P++[{v with key:=key}::l]).flatten:=by
  have:=h.set key (v::l)
  rw [idx_none.2 hg]at this
  exact this
 have hL:=h.eq
 have hr:rightPF (setF L key (v::l))=true:=by
  rw [es]
  refine whole_right (own_obj _) h2 rfl (fun _=> hn) ?_
  rw [List.length_cons,List.flatten_append,List.length_append,List.flatten_cons,List.flatten_nil,List.append_nil,List.length_cons]
  rw [hL,List.length_cons]at hl
  omega
 have e:setA L key (v::l)=setF L key (v::l):=by
  unfold setA fineF
  rw [if_pos ⟨h.isO,hM⟩,if_pos hr]
 rw [e]
 refine ⟨?_, ?_⟩
 ·rw [es]
  rw [es]at hr
  exact ObjIs.of rfl hr (parts_ends h2)
 ·rw [es,List.length_cons,List.flatten_append,List.length_append,List.flatten_cons,List.flatten_nil,List.append_nil,List.length_cons,hL,List.length_cons]
  omega
theorem rows_up {d:Nat} {o:Bool} {ks:List (List UInt8)} {l:List V} {t:List UInt8} (h:Js.Rows d o ks l t):∀ {d2:Nat},d2≤d→Js.Rows d2 o ks l t:=by
 induction h with
 | nil d o=> exact fun _=> .nil _ _
 | one hv hd _ hn hu ih=> exact fun h=> .one hv (Nat.lt_of_le_of_lt h hd) (ih (Nat.succ_le_succ h)) hn hu
 | more hv hd _ hn hu _ ih1 ih2=> exact fun h=> .more hv (Nat.lt_of_le_of_lt h hd) (ih1 (Nat.succ_le_succ h)) hn hu (ih2 h)
theorem own_bare {v:V} {o:Bool} (h:Own v o) (key:List UInt8) (hv:validF key=true) (o2:Bool) (h2:o2=false→key=[]):Own {v with key:=key} o2:=⟨h2,hv,h.2.2⟩
theorem one_bare {d:Nat} {o:Bool} {v:V} {l:List V} {t:List UInt8} (h:One d o v l t):One 0 false {v with key:=[]} l t:=by
 obtain ⟨ks,q1,q2,q3⟩:=h.kids
 exact ⟨own_bare h.own [] valid_none false (fun _=> rfl),by decide,ks,rows_up q1 (Nat.succ_le_succ (Nat.zero_le _)),q2,q3⟩
theorem one_right {v:V} {l:List V} {t:List UInt8} (h:One 0 false v l t) (hl:l.length+1≤5000):rightPF (v::l)=true:=by
 have:=h.rows
 rw [h.own.1 rfl]at this
 exact (prog_is _).2 ⟨_,hl,this⟩
theorem cut_right {L:List V} {a:Nat} (hr:rightPF L=true) (ha:a < L.length):rightPF (cutA L a)=true∧(cutA L a).length=rowE L a∧a+rowE L a≤L.length∧0 < rowE L a:=by
 obtain ⟨t,hl,hrows⟩:=(prog_is L).1 hr
 obtain ⟨d,o,v,l1,t1,x,e,hone⟩:=rows_at hrows a ha
 have hp:=endP_one hone x
 rw [←e]at hp
 have hrow:rowE L a=l1.length+1:=by unfold rowE;rw [hp];rfl
 have hlen:a+(l1.length+1)≤L.length:=by
  have:=congrArg List.length e
  rw [List.length_drop,List.length_cons,List.length_append]at this
  omega
 have hc:cutA L a= {v with key:=[]}::l1:=by
  unfold cutA placeB
  rw [hr,Bool.and_true,if_pos (decide_eq_true (by omega)),Int.toNat_natCast,hrow,e,List.take_succ_cons,List.take_left]
  rfl
 refine ⟨?_, ?_,by omega,by omega⟩
 ·rw [hc]
  exact one_right (one_bare hone) (by omega)
 ·rw [hc,hrow]
  rfl
end Jo
end Go.Proofs.YtmkjcleecjjchaaGreatDoor
namespace Go.Proofs.YtmkjcleecjjchaaGreatDoor
open Go
namespace Jo
open Jt Js
def mediaK:List UInt8:=[109,101,100,105,97,84,121,112,101]
def digK:List UInt8:=[100,105,103,101,115,116]
def sizeK:List UInt8:=[115,105,122,101]
def schemaK:List UInt8:=[115,99,104,101,109,97,86,101,114,115,105,111,110]
def configK:List UInt8:=[99,111,110,102,105,103]
def layersK:List UInt8:=[108,97,121,101,114,115]
structure Desc where
 media:List UInt8
 dig:List UInt8
 size:Int
structure Man where
 config:Desc
 layers:List Desc
 rest:List V
def ofKey (L:List V) (key:List UInt8):List V:=cutA L (plc (getA L 0 key))
def tellF (kind:Int) (x:List V):Option (List UInt8):=if kindOf x=kind then some (textOf x) else none
def memF (L:List V) (key:List UInt8) (kind:Int):Option (List UInt8):=tellF kind (ofKey L key)
def sizeOk (n:Int):Bool:=decide (0≤n∧n≤4611686018427387904)
def descF (L:List V):Option Desc:=
 (memF L mediaK 4).bind fun m=> (memF L digK 4).bind fun d=> (memF L sizeK 3).bind fun s=>
  if countOf L=3 then (Dg.parse d).bind fun x=> (intF s).bind fun n=> if sizeOk n=true then some ⟨m,x,n⟩ else none else none
def partsL (L:List V):List (List V):=partsP (countOf L).toNat (L.drop 1)
def allD:List (List V)→Option (List Desc)
 | []=> some []
 | p::P=> (descF p).bind fun d=> (allD P).bind fun r=> some (d::r)
def descsF (L:List V):Option (List Desc):=if kindOf L=5 then allD (partsL L) else none
def hasF (L:List V):Bool:=decide (memF L schemaK 3=some [50])
inductive Out where
 | ok (m:Man)
 | err (e:Nat)
def manF (L:List V):Out:=match (if hasF L=true then descF (ofKey L configK) else none),descsF (ofKey L layersK)with
 | some c,some ls=> if 60 < ls.length then .err 2 else .ok ⟨c,ls,srt (dropA (dropA L configK) layersK)⟩
 | _,_=> .err 3
def parseM (s:List UInt8):Out:=match parseF s with
 | .ok _ l _=> manF l
 | .err e=> .err e
def sortA (L:List V):List V:=if rightPF L=true then srt L else []
def okD (d:Desc):Bool:=validF d.media && sizeOk d.size
def rowD (d:Desc):List V:=if okD d=true then objA [mediaK,digK,sizeK] [[⟨4,[],fixF d.media,0⟩],[⟨4,[],fixF (Dg.text d.dig),0⟩],[⟨3,[],textF d.size,0⟩]] else []
def restOk (L:List V):Bool:=hasF L && decide (getA L 0 configK=none) && decide (getA L 0 layersK=none) && decide (sortA L=L)
def rowM (m:Man):List V:=if restOk m.rest=true∧m.layers.length≤60 then sortA (setA (setA m.rest configK (rowD m.config)) layersK (listA (m.layers.map rowD))) else []
def kidsD (d:Desc):List V:=[⟨4,mediaK,d.media,0⟩,⟨4,digK,Dg.text d.dig,0⟩,⟨3,sizeK,textF d.size,0⟩]
def descV (d:Desc):List V:=⟨6,[],[],3⟩::kidsD d
theorem valid_low {a:UInt8} (h:a.toNat < 128) (r:List UInt8):validF (a::r)=validF r:=by
 have hs:scalar a.toNat=true:=scalar_is.2 (.inl (by omega))
 have:=valid_ch hs r
 unfold bytesF at this
 rw [if_pos h,ofN a _ rfl]at this
 exact this
theorem valid_ascii:∀s:List UInt8,(∀a∈s,a.toNat < 128)→validF s=true
 | [],_=> valid_nil
 | a::r,h=> by
  rw [valid_low (h a List.mem_cons_self)]
  exact valid_ascii r fun x hx=> h x (List.mem_cons_of_mem _ hx)
theorem hx_low:∀k,(Dg.hx k).toNat < 128:=by
 intro k
 unfold Dg.hx
 by_cases h:k < 16
 ·revert k
  decide
 ·have e:Dg.hexs.getD k 0=0:=by
   rw [List.getD_eq_getElem?_getD,List.getElem?_eq_none (by show 16≤k;omega)]
   rfl
  rw [e]
  decide
theorem pairs_low:∀(d:List UInt8),∀a∈Dg.pairs d,a.toNat < 128
 | [],a,h=> by cases h
 | b::r,a,h=> by
  rw [Dg.pairs]at h
  rcases List.mem_cons.1 h with rfl | h
  ·exact hx_low _
  rcases List.mem_cons.1 h with rfl | h
  ·exact hx_low _
  ·exact pairs_low r a h
theorem text_valid (d:List UInt8):validF (Dg.text d)=true:=by
 refine valid_ascii _ fun a ha=> ?_
 unfold Dg.text at ha
 rcases List.mem_append.1 ha with ha | ha
 ·exact (show ∀a∈Dg.pre,a.toNat < 128 by decide) a ha
 ·exact pairs_low d a ha
theorem nat_ne:∀n:Nat,natT n≠[]:=by
 intro n
 rw [natT]
 split
 ·exact List.cons_ne_nil _ _
 ·simp
theorem natT_len:∀(k n:Nat),n < 10 ^ k→(natT n).length≤k+1
 | 0,n,h=> by
  have:n=0:=by simpa using h
  subst this
  rw [nat_low (by decide)]
  exact Nat.le_refl _
 | k+1,n,h=> by
  by_cases h10:n < 10
  ·rw [nat_low h10]
   show 1≤_
   omega
  ·rw [nat_high h10,List.length_append]
   have:=natT_len k (n / 10) (by rw [Nat.pow_succ]at h;omega)
   show _+1≤_
   omega
theorem textF_len {n:Int} (h0: -9223372036854775808≤n) (h1:n≤9223372036854775807):(textF n).length≤21:=by
 have h:(natT n.natAbs).length≤19+1:=natT_len 19 _ (by omega)
 unfold textF
 split
 ·rw [List.length_cons];omega
 ·omega
theorem textF_ne (n:Int):textF n≠[]:=by
 unfold textF
 split
 ·exact List.cons_ne_nil _ _
 ·exact nat_ne _
theorem own_text {key t:List UInt8} {o:Bool} (ho:o=false→key=[]) (hk:validF key=true) (ht:validF t=true):Own ⟨4,key,t,0⟩ o:=⟨ho,hk, .inr (.inr (.inl ⟨rfl,ht,rfl⟩))⟩
theorem own_num {key:List UInt8} {o:Bool} (n:Int) (ho:o=false→key=[]) (hk:validF key=true):Own ⟨3,key,textF n,0⟩ o:=⟨ho,hk, .inr (.inl ⟨rfl,textF_ne n,num_text n,rfl⟩)⟩
theorem media_valid:validF mediaK=true:=valid_ascii _ (by decide)
theorem dig_valid:validF digK=true:=valid_ascii _ (by decide)
theorem size_valid:validF sizeK=true:=valid_ascii _ (by decide)
theorem config_valid:validF configK=true:=valid_ascii _ (by decide)
theorem layers_valid:validF layersK=true:=valid_ascii _ (by decide)
theorem leaf_parts {d:Nat} {o:Bool} (hd:d < 50):∀(l:List V),(∀v∈l,Own v o∧v.kind≠6∧v.count=0)→Parts d o (l.map (·.key)) (l.map fun v=> [v])
 | [],_=> .nil
 | v::r,h=> by
  obtain ⟨h1,h2,h3⟩:=h v List.mem_cons_self
  exact .cons (One.leaf h1 hd h2 h3) (leaf_parts hd r fun x hx=> h x (List.mem_cons_of_mem _ hx))
theorem kids_own {d:Desc} (hv:validF d.media=true):∀v∈kidsD d,Own v true∧v.kind≠6∧v.count=0:=by
 intro v hm
 unfold kidsD at hm
 rcases List.mem_cons.1 hm with rfl | hm
 ·exact ⟨own_text (fun h=> by cases h) media_valid hv,(show (4:Int)≠6 by decide),rfl⟩
 rcases List.mem_cons.1 hm with rfl | hm
 ·exact ⟨own_text (fun h=> by cases h) dig_valid (text_valid _),(show (4:Int)≠6 by decide),rfl⟩
 rcases List.mem_cons.1 hm with rfl | hm
 ·exact ⟨own_num _ (fun h=> by cases h) size_valid,(show (3:Int)≠6 by decide),rfl⟩
 ·cases hm
theorem desc_one {d:Desc} (hv:validF d.media=true) {key:List UInt8} {n:Nat} {o:Bool} (ho:o=false→key=[]) (hk:validF key=true) (hn:n < 49):∃t,One n o ⟨6,key,[],3⟩ (kidsD d) t:=by
 have hp:=leaf_parts (d:=n+1) (by omega) (kidsD d) (kids_own hv)
 obtain ⟨t,ht⟩:=hp.rows
 have e:((kidsD d).map fun v=> [v]).flatten=kidsD d:=rfl
 rw [e]at ht
 refine ⟨t,⟨ho,hk, .inr (.inr (.inr ⟨.inr rfl,rfl,(show (0:Int)≤3 by decide)⟩))⟩,by omega,_,ht,rfl,fun _=> ?_⟩
 show [mediaK,digK,sizeK].Nodup
 decide
theorem desc_right {d:Desc} (hv:validF d.media=true):rightPF (descV d)=true:=by
 obtain ⟨t,ht⟩:=desc_one hv (key:=[]) (n:=0) (o:=false) (fun _=> rfl) valid_none (by decide)
 exact one_right ht (show 3+1≤5000 by decide)
theorem desc_is {d:Desc} (hv:validF d.media=true):ObjIs (descV d) ((kidsD d).map fun v=> [v]):=
 ObjIs.of (P:=(kidsD d).map fun v=> [v]) (n:=3) rfl (desc_right hv) (parts_ends (leaf_parts (d:=1) (by decide) (kidsD d) (kids_own hv)))
theorem rowD_is {d:Desc} (h:okD d=true):rowD d=descV d:=by
 have hv:validF d.media=true:=by
  unfold okD at h
  rw [Bool.and_eq_true]at h
  exact h.1
 have r1:rightPF [⟨4,[],fixF d.media,0⟩]=true:=one_right (One.leaf (own_text (fun _=> rfl) valid_none (fix_valid _)) (by decide) (show (4:Int)≠6 by decide) rfl) (show 0+1≤5000 by decide)
 have r2:rightPF [⟨4,[],fixF (Dg.text d.dig),0⟩]=true:=one_right (One.leaf (own_text (fun _=> rfl) valid_none (fix_valid _)) (by decide) (show (4:Int)≠6 by decide) rfl) (show 0+1≤5000 by decide)
 have r3:rightPF [⟨3,[],textF d.size,0⟩]=true:=one_right (One.leaf (own_num _ (fun _=> rfl) valid_none) (by decide) (show (3:Int)≠6 by decide) rfl) (show 0+1≤5000 by decide)
 have e:objF [mediaK,digK,sizeK] [[⟨4,[],fixF d.media,0⟩],[⟨4,[],fixF (Dg.text d.dig),0⟩],[⟨3,[],textF d.size,0⟩]]=descV d:=by
  rw [fix_same _ hv,fix_same _ (text_valid _)]
  rfl
 unfold rowD objA
 rw [if_pos h,if_pos ⟨by rw [List.all_cons,List.all_cons,List.all_cons,r1,r2,r3];rfl,rfl⟩]
 unfold fineF
 rw [e,if_pos (desc_right hv)]
theorem rowD_no {d:Desc} (h:okD d=false):rowD d=[]:=by
 unfold rowD
 rw [h]
 rfl
def listV (ls:List Desc):List V:=⟨5,[],[],(ls.length:Nat)⟩::(ls.map descV).flatten
theorem flat_desc:∀ls:List Desc,(ls.map descV).flatten.length=4*ls.length
 | []=> rfl
 | d::r=> by
  rw [List.map_cons,List.flatten_cons,List.length_append,flat_desc r,List.length_cons]
  show 4+_=_
  omega
theorem descs_parts {n:Nat} (hn:n < 49):∀ {ls:List Desc},(∀d∈ls,validF d.media=true)→Parts n false (ls.map fun _=> []) (ls.map descV)
 | [],_=> .nil
 | d::r,h=> by
  obtain ⟨t,ht⟩:=desc_one (h d List.mem_cons_self) (key:=[]) (n:=n) (o:=false) (fun _=> rfl) valid_none hn
  exact .cons ht (descs_parts hn fun x hx=> h x (List.mem_cons_of_mem _ hx))
theorem list_one {ls:List Desc} (h:∀d∈ls,validF d.media=true) {key:List UInt8} {n:Nat} {o:Bool} (ho:o=false→key=[]) (hk:validF key=true) (hn:n < 48):∃t,One n o ⟨5,key,[],(ls.length:Nat)⟩ (ls.map descV).flatten t:=by
 have hp:=descs_parts (n:=n+1) (by omega) h
 obtain ⟨t,ht⟩:=hp.rows
 refine ⟨t,⟨ho,hk, .inr (.inr (.inr ⟨.inl rfl,rfl, ?_⟩))⟩,by omega,_,ht, ?_,fun h=> ?_⟩
 ·show (0:Int)≤(ls.length:Nat)
  omega
 ·show (((ls.map fun _=> ([]:List UInt8)).length:Nat):Int)=(ls.length:Nat)
  rw [List.length_map]
 ·cases h
theorem list_right {ls:List Desc} (h:∀d∈ls,validF d.media=true) (hl:ls.length≤60):rightPF (listV ls)=true:=by
 obtain ⟨t,ht⟩:=list_one h (key:=[]) (n:=0) (o:=false) (fun _=> rfl) valid_none (by decide)
 exact one_right ht (by rw [flat_desc];omega)
theorem listA_is {ls:List Desc} (h:∀d∈ls,okD d=true) (hl:ls.length≤60):listA (ls.map rowD)=listV ls:=by
 have hv:∀d∈ls,validF d.media=true:=fun d hd=> by
  have:=h d hd
  unfold okD at this
  rw [Bool.and_eq_true]at this
  exact this.1
 have e:ls.map rowD=ls.map descV:=List.map_congr_left fun d hd=> rowD_is (h d hd)
 have ha:(ls.map descV).all rightPF=true:=List.all_eq_true.2 fun p hp=> by
  obtain ⟨d,hd,rfl⟩:=List.mem_map.1 hp
  exact desc_right (hv d hd)
 have e2:listF (ls.map descV)=listV ls:=by
  unfold listF listV
  rw [List.length_map]
 unfold listA fineF
 rw [e,if_pos ha,e2,if_pos (list_right hv hl)]
theorem listA_no {ls:List Desc} (h:¬∀d∈ls,okD d=true):listA (ls.map rowD)=[]:=by
 obtain ⟨d,hd,hn⟩:∃d∈ls,okD d=false:=by
  apply Classical.byContradiction
  intro hc
  refine h fun d hd=> ?_
  cases he:okD d with
  | true=> rfl
  | false=> exact absurd ⟨d,hd,he⟩ hc
 unfold listA
 rw [if_neg fun ha=> ?_]
 have:=List.all_eq_true.1 ha _ (List.mem_map.2 ⟨d,hd,rfl⟩)
 rw [rowD_no hn]at this
 cases this
end Jo
end Go.Proofs.YtmkjcleecjjchaaGreatDoor
namespace Go.Proofs.YtmkjcleecjjchaaGreatDoor
open Go
namespace Jo
open Jt Js
theorem look_left {Q:List (List V)} {key:List UInt8} (h:key∉Q.map keyOf):∀P:List (List V),look (P++Q) key=look P key
 | []=> look_no h
 | p::P=> by rw [List.cons_append,look_cons,look_cons,look_left h P]
theorem look_right {key:List UInt8} (Q:List (List V)):∀ {P:List (List V)},key∉P.map keyOf→look (P++Q) key=look Q key
 | [],_=> rfl
 | p::P,h=> by
  rw [List.map_cons,List.mem_cons,not_or]at h
  rw [List.cons_append,look_cons,if_neg (fun e=> h.1 e.symm),look_right Q h.2]
theorem look_but {key other:List UInt8} (h:other≠key):∀P:List (List V),look (butF key P) other=look P other
 | []=> rfl
 | p::P=> by
  by_cases hk:keyOf p=key
  ·rw [but_skip hk,look_cons,if_neg (fun e=> h (e.symm.trans hk)),look_but h P]
  ·rw [but_keep hk,look_cons,look_cons,look_but h P]
theorem but_len {key:List UInt8}:∀ {P:List (List V)},(P.map keyOf).Nodup→(butF key P).flatten.length+(look P key).length=P.flatten.length
 | [],_=> rfl
 | p::P,hn=> by
  rw [List.map_cons,List.nodup_cons]at hn
  by_cases hk:keyOf p=key
  ·rw [but_skip hk,look_cons,if_pos hk,named_len,List.flatten_cons,List.length_append,but_none (P:=P) (key:=key) (by rw [←hk];exact hn.1)]
   omega
  ·rw [but_keep hk,look_cons,if_neg hk,List.flatten_cons,List.length_append,List.flatten_cons,List.length_append]
   have:=but_len (key:=key) hn.2
   omega
theorem flat_len {L:List V} {P:List (List V)} (h:ObjIs L P):L.length=P.flatten.length+1:=by rw [h.eq,List.length_cons]
theorem ObjIs.key {L:List V} {P:List (List V)} (h:ObjIs L P) (key:List UInt8):ofKey L key=Jo.look P key:=h.look key
theorem drop_len {L:List V} {P:List (List V)} (h:ObjIs L P) (key:List UInt8):(dropA L key).length+(ofKey L key).length=L.length:=by
 have h1:=flat_len h
 have h2:=flat_len (ObjIs.but h key)
 have h3:=but_len (key:=key) h.nodup
 rw [ObjIs.key h key]
 omega
theorem get_none {L:List V} {P:List (List V)} (h:ObjIs L P) (key:List UInt8):getA L 0 key=none↔key∉P.map keyOf:=by
 rw [h.get,Option.map_eq_none_iff]
 exact idx_none
theorem key_none {L:List V} {key:List UInt8} (h:getA L 0 key=none):ofKey L key=[]:=by
 unfold ofKey
 rw [h]
 unfold cutA placeB plc
 rfl
theorem key_isO {L:List V} {key:List UInt8} (h:ofKey L key≠[]):isO L=true:=by
 cases hg:getA L 0 key with
 | none=> exact absurd (key_none hg) h
 | some p=>
  unfold getA at hg
  split at hg
  next hc=>
   unfold isO
   have h1:=hc.1
   have h2:=hc.2
   unfold placeB at h1
   rw [Bool.and_eq_true]at h1
   rw [h1.2,Bool.true_and,decide_eq_true_eq]
   exact h2
  next=> cases hg
theorem mem_some {L:List V} {key t:List UInt8} {kind:Int} (hk:kind≠ -1) (h:memF L key kind=some t):isO L=true∧kindOf (ofKey L key)=kind∧textOf (ofKey L key)=t:=by
 unfold memF tellF at h
 split at h
 next hc=>
  refine ⟨key_isO (key:=key) fun e=> ?_,hc,Option.some.inj h⟩
  rw [e]at hc
  exact hk hc.symm
 next=> cases h
theorem has_isO {L:List V} (h:hasF L=true):isO L=true:=(mem_some (by decide) (of_decide_eq_true h)).1
theorem mem_srt {L:List V} {P:List (List V)} (h:ObjIs L P) (key:List UInt8) (kind:Int):memF (srt L) key kind=memF L key kind:=by
 unfold memF ofKey tellF
 rw [cut_srt h,kind_srt,text_srt]
theorem desc_srt {L:List V} {P:List (List V)} (h:ObjIs L P):descF (srt L)=descF L:=by
 unfold descF
 simp only [mem_srt h,count_srt]
theorem ok_valid {d:Desc} (h:okD d=true):validF d.media=true∧sizeOk d.size=true:=by
 unfold okD at h
 rw [Bool.and_eq_true]at h
 exact h
theorem desc_row {d:Desc} (h:okD d=true) (hd:d.dig.length=32):descF (descV d)=some d:=by
 obtain ⟨hv,hs⟩:=ok_valid h
 have hO:=desc_is hv
 have h1:memF (descV d) mediaK 4=some d.media:=by
  unfold memF
  rw [ObjIs.key hO]
  rfl
 have h2:memF (descV d) digK 4=some (Dg.text d.dig):=by
  unfold memF
  rw [ObjIs.key hO]
  rfl
 have h3:memF (descV d) sizeK 3=some (textF d.size):=by
  unfold memF
  rw [ObjIs.key hO]
  rfl
 have hs2:=of_decide_eq_true hs
 unfold descF
 rw [h1,h2,h3]
 simp only [Option.bind_some]
 rw [if_pos (show countOf (descV d)=3 from rfl),Dg.parse_text _ hd,int_text (by omega) (by omega)]
 simp only [Option.bind_some]
 rw [if_pos hs]
theorem list_srt {n:Nat} {ks:List (List UInt8)} {P:List (List V)} (hp:Parts 1 false ks P) (hn:P.length=n):srt (⟨5,[],[],(n:Nat)⟩::P.flatten)=⟨5,[],[],(n:Nat)⟩::(P.map srt).flatten:=by
 subst hn
 have hr:=hp.read []
 rw [List.append_nil]at hr
 unfold srt
 rw [List.length_cons,sortF]
 dsimp only
 rw [Int.toNat_natCast,hp.len,hr,parts_map hp (Nat.le_refl _),if_neg (show ¬isObj ⟨5,[],[],(ks.length:Nat)⟩=true from fun e=> absurd (of_decide_eq_true e) (show ¬(5:Int)=6 by decide))]
 rfl
theorem parts_list {n:Nat} {ks:List (List UInt8)} {P:List (List V)} (hp:Parts 1 false ks P) (hn:P.length=n):partsL (⟨5,[],[],(n:Nat)⟩::P.flatten)=P:=by
 subst hn
 have hr:=parts_prog hp []
 rw [List.append_nil,←hp.len]at hr
 exact hr
theorem all_map {f:Desc→List V}:∀ {ls:List Desc},(∀d∈ls,descF (f d)=some d)→allD (ls.map f)=some ls
 | [],_=> rfl
 | d::r,h=> by
  rw [List.map_cons,allD,h d List.mem_cons_self,all_map fun x hx=> h x (List.mem_cons_of_mem _ hx)]
  rfl
theorem descs_row {ls:List Desc} (h:∀d∈ls,okD d=true) (hd:∀d∈ls,d.dig.length=32):descsF (srt (listV ls))=some ls:=by
 have hv:∀d∈ls,validF d.media=true:=fun d hm=> (ok_valid (h d hm)).1
 have hp:=descs_parts (n:=1) (by decide) hv
 have e:srt (listV ls)=⟨5,[],[],(ls.length:Nat)⟩::((ls.map descV).map srt).flatten:=list_srt hp (List.length_map _)
 have hp2:=parts_srt hp
 unfold descsF
 rw [e,if_pos (show kindOf (⟨5,[],[],(ls.length:Nat)⟩::((ls.map descV).map srt).flatten)=5 from rfl),parts_list hp2 (by rw [List.length_map,List.length_map]),List.map_map]
 exact all_map fun d hm=> by
  show descF (srt (descV d))=some d
  rw [desc_srt (desc_is (hv d hm)),desc_row (h d hm) (hd d hm)]
structure OkM (m:Man):Prop where
 rest:restOk m.rest=true
 len:m.layers.length≤60
 config:okD m.config=true
 layers:∀d∈m.layers,okD d=true
 room:m.rest.length+(4+(4*m.layers.length+1))≤5000
structure DigM (m:Man):Prop where
 config:m.config.dig.length=32
 layers:∀d∈m.layers,d.dig.length=32
theorem rest_is {L:List V} (h:restOk L=true):∃P,ObjIs L P∧hasF L=true∧configK∉P.map keyOf∧layersK∉P.map keyOf∧srt L=L:=by
 unfold restOk at h
 rw [Bool.and_eq_true,Bool.and_eq_true,Bool.and_eq_true]at h
 obtain ⟨P,hP⟩:=obj_is (has_isO h.1.1.1)
 refine ⟨P,hP,h.1.1.1,(get_none hP _).1 (of_decide_eq_true h.1.1.2),(get_none hP _).1 (of_decide_eq_true h.1.2), ?_⟩
 have:=of_decide_eq_true h.2
 unfold sortA at this
 rw [if_pos hP.right]at this
 exact this
theorem is_rest {L:List V} {P:List (List V)} (h:ObjIs L P) (h1:hasF L=true) (h2:configK∉P.map keyOf) (h3:layersK∉P.map keyOf) (h4:srt L=L):restOk L=true:=by
 unfold restOk sortA
 rw [h1,decide_eq_true ((get_none h _).2 h2),decide_eq_true ((get_none h _).2 h3),if_pos h.right,decide_eq_true h4]
 rfl
structure RowIs (m:Man) (P:List (List V)) (X:List V):Prop where
 rest:ObjIs m.rest P
 has:hasF m.rest=true
 noC:configK∉P.map keyOf
 noL:layersK∉P.map keyOf
 same:srt m.rest=m.rest
 obj:ObjIs X (P++[named configK (descV m.config)]++[named layersK (listV m.layers)])
 row:rowM m=srt X
 len:X.length=m.rest.length+(4+(4*m.layers.length+1))
theorem row_is {m:Man} (h:OkM m):∃P X,RowIs m P X:=by
 obtain ⟨P,hP,hh,hc,hl,hs⟩:=rest_is h.rest
 obtain ⟨hv,_⟩:=ok_valid h.config
 have hvl:∀d∈m.layers,validF d.media=true:=fun d hm=> (ok_valid (h.layers d hm)).1
 obtain ⟨t1,o1⟩:=desc_one hv (key:=configK) (n:=1) (o:=true) (fun h=> by cases h) config_valid (by decide)
 obtain ⟨t2,o2⟩:=list_one hvl (key:=layersK) (n:=1) (o:=true) (fun h=> by cases h) layers_valid (by decide)
 have hroom:=h.room
 have hk:(kidsD m.config).length=3:=rfl
 have hf:=flat_desc m.layers
 obtain ⟨a1,a2⟩:=ObjIs.add hP (key:=configK) (desc_right hv) o1 hc (by omega)
 have hl2:layersK∉(P++[named configK (descV m.config)]).map keyOf:=by
  rw [List.map_append,List.mem_append]
  rintro (h | h)
  ·exact hl h
  ·have:layersK=configK:=List.mem_singleton.1 h
   revert this
   decide
 obtain ⟨b1,b2⟩:=ObjIs.add a1 (key:=layersK) (list_right hvl h.len) o2 hl2 (by omega)
 refine ⟨P,setA (setA m.rest configK (descV m.config)) layersK (listV m.layers),hP,hh,hc,hl,hs,b1, ?_, ?_⟩
 ·unfold rowM sortA
  rw [if_pos ⟨h.rest,h.len⟩,rowD_is h.config,listA_is h.layers h.len]
  exact if_pos b1.right
 ·show (setA (setA m.rest configK (⟨6,[],[],3⟩::kidsD m.config)) layersK (⟨5,[],[],(m.layers.length:Nat)⟩::(m.layers.map descV).flatten)).length=_
  rw [b2]
  show (setA m.rest configK (⟨6,[],[],3⟩::kidsD m.config)).length+_=_
  rw [a2,hk,hf]
  omega
theorem RowIs.right {m:Man} {P:List (List V)} {X:List V} (h:RowIs m P X):rightPF (rowM m)=true∧(rowM m).length=m.rest.length+(4+(4*m.layers.length+1)):=by
 rw [h.row]
 obtain ⟨_,h1,h2⟩:=srt_srt h.obj.right
 exact ⟨h1,h2.trans h.len⟩
theorem config_layers:configK≠layersK:=by decide
theorem schema_config:schemaK≠configK:=by decide
theorem schema_layers:schemaK≠layersK:=by decide
theorem but_perm {key:List UInt8} {P Q:List (List V)} (h:P.Perm Q):(butF key P).Perm (butF key Q):=h.filter _
theorem but_app (key:List UInt8) (P Q:List (List V)):butF key (P++Q)=butF key P++butF key Q:=List.filter_append _ _
theorem but_one {key:List UInt8} {p:List V} (h:keyOf p=key):butF key [p]=[]:=but_skip h []
theorem but_other {key:List UInt8} {p:List V} (h:keyOf p≠key):butF key [p]=[p]:=but_keep h []
theorem man_row {m:Man} {P:List (List V)} {X:List V} (h:RowIs m P X) (hm:OkM m) (hd:DigM m):manF (rowM m)= .ok m:=by
 have hX:=h.obj
 have kc:keyOf (named configK (descV m.config))=configK:=rfl
 have kl:keyOf (named layersK (listV m.layers))=layersK:=rfl
 have hs:ofKey X schemaK=ofKey m.rest schemaK:=by
  rw [ObjIs.key hX,ObjIs.key h.rest,look_left (by rw [List.map_cons,kl];decide),look_left (by rw [List.map_cons,kc];decide)]
 have hc:ofKey X configK=descV m.config:=by
  rw [ObjIs.key hX,look_left (by rw [List.map_cons,kl];decide),look_right _ h.noC,look_cons,if_pos kc]
  rfl
 have hl:ofKey X layersK=listV m.layers:=by
  rw [ObjIs.key hX,look_right _ (by
   rw [List.map_append,List.mem_append]
   rintro (e | e)
   ·exact h.noL e
   ·rw [List.map_cons,kc]at e
    revert e
    decide),look_cons,if_pos kl]
  rfl
 have hhas:hasF (rowM m)=true:=by
  have:=h.has
  unfold hasF at this ⊢
  rw [h.row,mem_srt hX]
  unfold memF at this ⊢
  rw [hs]
  exact this
 have hc2:ofKey (rowM m) configK=srt (descV m.config):=by
  rw [h.row]
  exact (cut_srt hX configK).trans (congrArg srt hc)
 have hl2:ofKey (rowM m) layersK=srt (listV m.layers):=by
  rw [h.row]
  exact (cut_srt hX layersK).trans (congrArg srt hl)
 have hrest:srt (dropA (dropA (rowM m) configK) layersK)=m.rest:=by
  have hD:=ObjIs.but (ObjIs.but (ObjIs.srt hX) configK) layersK
  rw [←h.row]at hD
  have hR:=ObjIs.srt h.rest
  rw [h.same]at hR
  rw [srt_perm hD hR,h.same]
  refine (but_perm (but_perm (ord_perm _).symm)).trans ?_
  rw [List.map_append,List.map_append,but_app,but_app,but_app,but_app,List.map_cons,List.map_nil,List.map_cons,List.map_nil,but_one (by rw [key_srt];exact kc),but_other (p:=srt (named layersK (listV m.layers))) (by rw [key_srt,kl];decide),but_one (key:=layersK) (by rw [key_srt];exact kl)]
  rw [but_none (key:=configK) (by rw [map_keys];exact h.noC),but_none (key:=layersK) (P:=P.map srt) (by rw [map_keys];exact h.noL)]
  show (P.map srt++[]++[]).Perm _
  rw [List.append_nil,List.append_nil]
  exact ord_perm _
 unfold manF
 rw [hhas,if_pos rfl,hc2,hl2,desc_srt (desc_is (ok_valid hm.config).1),desc_row hm.config hd.config,descs_row hm.layers hd.layers,hrest]
 show (if 60 < m.layers.length then Out.err 2 else _)=_
 rw [if_neg (by have:=hm.len;omega)]
end Jo
end Go.Proofs.YtmkjcleecjjchaaGreatDoor
namespace Go.Proofs.YtmkjcleecjjchaaGreatDoor
open Go
namespace Jo
open Jt Js
theorem leaf_none {d:Nat} {o:Bool} {v:V} {l:List V} {t:List UInt8} (h:One d o v l t) (hk:v.kind=3∨v.kind=4):l=[]:=by
 obtain ⟨ks,q1,q2,_⟩:=h.kids
 have hg:grp v=false:=decide_eq_false (by omega)
 have hc:=own_leaf h.own hg
 have h0:ks=[]:=List.eq_nil_of_length_eq_zero (by omega)
 exact (rows_none q1 h0).1
theorem three_all {α:Type} {a b c x y z:α} (hab:a≠b) (hac:a≠c) (hbc:b≠c) (ha:a∈[x,y,z]) (hb:b∈[x,y,z]) (hc:c∈[x,y,z]):∀u∈[x,y,z],u=a∨u=b∨u=c:=by
 intro u hu
 simp only [List.mem_cons,List.not_mem_nil,or_false]at ha hb hc hu
 rcases ha with rfl | rfl | rfl <;> rcases hb with rfl | rfl | rfl <;> rcases hc with rfl | rfl | rfl <;> first
  | exact absurd rfl hab
  | exact absurd rfl hac
  | exact absurd rfl hbc
  | (rcases hu with rfl | rfl | rfl <;> simp)
theorem look_find {P:List (List V)} {key:List UInt8} (h:look P key≠[]):∃p∈P,keyOf p=key∧look P key=named [] p:=by
 cases hi:idxF key P with
 | none=>
  refine absurd ?_ h
  unfold look
  rw [hi]
 | some j=>
  obtain ⟨hj,hk,_⟩:=idx_some hi
  refine ⟨P[j],List.getElem_mem hj,hk, ?_⟩
  unfold look
  rw [hi]
  show named [] (P.getD j [])=_
  rw [List.getD_eq_getElem?_getD,List.getElem?_eq_getElem hj,Option.getD_some]
theorem kind_named (key:List UInt8) (l:List V):kindOf (named key l)=kindOf l:=by cases l <;> rfl
theorem text_named (key:List UInt8) (l:List V):textOf (named key l)=textOf l:=by cases l <;> rfl
theorem mem_part {L:List V} {P:List (List V)} (h:ObjIs L P) {key t:List UInt8} {kind:Int} (hk:kind≠ -1) (hm:memF L key kind=some t):∃p∈P,keyOf p=key∧kindOf p=kind∧textOf p=t:=by
 obtain ⟨_,h1,h2⟩:=mem_some hk hm
 rw [ObjIs.key h]at h1 h2
 obtain ⟨p,hp,hkey,e⟩:=look_find (P:=P) (key:=key) (fun e=> by rw [e]at h1;exact hk h1.symm)
 rw [e,kind_named]at h1
 rw [e,text_named]at h2
 exact ⟨p,hp,hkey,h1,h2⟩
theorem part_is {L:List V} {P:List (List V)} (h:ObjIs L P) {p:List V} (hp:p∈P):∃v l t,p=v::l∧One 1 true v l t:=by
 obtain ⟨ks,hk⟩:=h.parts
 obtain ⟨v,l,t,e,ho,_⟩:=parts_mem hk p hp
 exact ⟨v,l,t,e,ho⟩
theorem desc_inv {L:List V} {d:Desc} (h:descF L=some d):okD d=true∧d.dig.length=32∧L.length=4:=by
 unfold descF at h
 obtain ⟨m,hm,h⟩:=Option.bind_eq_some_iff.1 h
 obtain ⟨g,hg,h⟩:=Option.bind_eq_some_iff.1 h
 obtain ⟨s,hs,h⟩:=Option.bind_eq_some_iff.1 h
 split at h
 next h3=>
  obtain ⟨x,hx,h⟩:=Option.bind_eq_some_iff.1 h
  obtain ⟨n,hn,h⟩:=Option.bind_eq_some_iff.1 h
  split at h
  next hz=>
   obtain rfl:=Option.some.inj h
   obtain ⟨P,hP⟩:=obj_is (mem_some (by decide) hm).1
   obtain ⟨p1,m1,k1,q1,t1⟩:=mem_part hP (by decide) hm
   obtain ⟨p2,m2,k2,q2,_⟩:=mem_part hP (by decide) hg
   obtain ⟨p3,m3,k3,q3,_⟩:=mem_part hP (by decide) hs
   have hlen:P.length=3:=by
    rw [hP.eq]at h3
    have:((P.length:Nat):Int)=3:=h3
    omega
   refine ⟨?_,(Dg.parse_some hx).2, ?_⟩
   ·obtain ⟨v,l,t,rfl,ho⟩:=part_is hP m1
    have hv:validF m=true:=by
     have h4:v.kind=4:=q1
     have ht:v.text=m:=t1
     obtain ⟨_,_,o | o | o | o⟩:=ho.own
     ·omega
     ·omega
     ·rw [←ht];exact o.2.1
     ·omega
    unfold okD
    rw [hv,hz]
    rfl
   ·have one:∀p∈P,(kindOf p=3∨kindOf p=4)→p.length=1:=fun p hp hk=> by
     obtain ⟨v,l,t,rfl,ho⟩:=part_is hP hp
     rw [leaf_none ho hk]
     rfl
    match P,hlen with
    | [x1,x2,x3],_=>
     have all:=three_all (a:=p1) (b:=p2) (c:=p3) (fun e=> by subst e;rw [k1]at k2;revert k2;decide) (fun e=> by subst e;rw [k1]at k3;revert k3;decide) (fun e=> by subst e;rw [k2]at k3;revert k3;decide) m1 m2 m3
     have each:∀p∈[x1,x2,x3],p.length=1:=fun p hp=> one p hp (by
      rcases all p hp with rfl | rfl | rfl
      ·exact .inr q1
      ·exact .inr q2
      ·exact .inl q3)
     rw [hP.eq,List.length_cons,List.flatten_cons,List.flatten_cons,List.flatten_cons,List.flatten_nil,List.length_append,List.length_append,List.length_append,each x1 (by simp),each x2 (by simp),each x3 (by simp)]
     rfl
  next=> cases h
 next=> cases h
theorem all_inv {ks:List (List UInt8)} {Q:List (List V)} (hp:Parts 1 false ks Q):∀ {ls:List Desc},allD Q=some ls→(∀d∈ls,okD d=true∧d.dig.length=32)∧Q.flatten.length=4*ls.length:=by
 induction hp with
 | nil=>
  intro ls h
  obtain rfl:=Option.some.inj h
  exact ⟨fun d hd=> (by cases hd),rfl⟩
 | @cons v l t ks P h r ih=>
  intro ls ha
  rw [allD]at ha
  obtain ⟨d,hd,ha⟩:=Option.bind_eq_some_iff.1 ha
  obtain ⟨r2,hr2,ha⟩:=Option.bind_eq_some_iff.1 ha
  obtain rfl:=Option.some.inj ha
  obtain ⟨i1,i2⟩:=ih hr2
  obtain ⟨a,b,c⟩:=desc_inv hd
  refine ⟨fun x hx=> ?_, ?_⟩
  ·rcases List.mem_cons.1 hx with rfl | hx
   ·exact ⟨a,b⟩
   ·exact i1 x hx
  ·rw [List.flatten_cons,List.length_append,c,i2,List.length_cons]
   omega
theorem descs_inv {L:List V} {ls:List Desc} (hr:rightPF L=true) (h:descsF L=some ls):(∀d∈ls,okD d=true∧d.dig.length=32)∧L.length=4*ls.length+1:=by
 obtain ⟨v,P,e,_,hn,_,⟨ks,_,hp,_⟩,_⟩:=right_whole hr
 unfold descsF at h
 split at h
 next hk=>
  rw [e]at hk
  have h5:v.kind=5:=hk
  have ho:isObj v=false:=decide_eq_false (by omega)
  rw [ho]at hp
  have hparts:partsL L=P:=by
   have hr:=parts_prog hp []
   rw [List.append_nil,←hp.len]at hr
   unfold partsL
   rw [e]
   show partsP v.count.toNat P.flatten=P
   rw [←hn,Int.toNat_natCast]
   exact hr
  rw [hparts]at h
  obtain ⟨a,b⟩:=all_inv hp h
  exact ⟨a,by rw [e,List.length_cons,b]⟩
 next=> cases h
theorem key_right {L:List V} {P:List (List V)} (h:ObjIs L P) {key:List UInt8} (hk:ofKey L key≠[]):rightPF (ofKey L key)=true:=by
 cases hi:idxF key P with
 | none=> exact absurd (key_none (by rw [h.get,hi];rfl)) hk
 | some j=>
  obtain ⟨hj,_,_⟩:=idx_some hi
  have e:ofKey L key=cutA L ((1+offs P j:Nat):Int):=by
   unfold ofKey
   rw [h.get,hi]
   rfl
  rw [e]
  exact (cut_right h.right (h.at_ hj).1).1
theorem man_inv {L:List V} {y:Man} (_hr:rightPF L=true) (h:manF L= .ok y):OkM y∧DigM y∧(rowM y).length=L.length:=by
 unfold manF at h
 split at h
 next c ls h1 h2=>
  split at h1
  next hh=>
   split at h
   next=> cases h
   next hl=>
    obtain rfl:=Out.ok.inj h
    obtain ⟨P,hP⟩:=obj_is (has_isO hh)
    have n2:ofKey L layersK≠[]:=fun e=> by rw [e]at h2;cases h2
    obtain ⟨a1,a2,a3⟩:=desc_inv h1
    obtain ⟨b1,b2⟩:=descs_inv (key_right hP n2) h2
    have hB:=ObjIs.but hP configK
    have hC:=ObjIs.but hB layersK
    have hY:=ObjIs.srt hC
    obtain ⟨s1,s2,s3⟩:=srt_srt hC.right
    have l1:=drop_len hP configK
    have l2:=drop_len hB layersK
    have e2:ofKey (dropA L configK) layersK=ofKey L layersK:=by
     rw [ObjIs.key hB,ObjIs.key hP,look_but config_layers.symm]
    rw [e2]at l2
    have h5:=right_short hP.right
    have keys:∀k,k∉(butF layersK (butF configK P)).map keyOf→k∉(ordF ((butF layersK (butF configK P)).map srt)).map keyOf:=fun k hk hm=> hk (by
     have:=((ord_perm ((butF layersK (butF configK P)).map srt)).map keyOf).mem_iff.2 hm
     rw [map_keys]at this
     exact this)
    have hok:OkM ⟨c,ls,srt (dropA (dropA L configK) layersK)⟩:=by
     refine ⟨is_rest hY ?_ (keys _ (but_sub _ _ (but_keys _ _))) (keys _ (but_keys _ _)) s1,by show ls.length≤60;omega,a1,fun d hd=> (b1 d hd).1, ?_⟩
     ·unfold hasF at hh ⊢
      rw [mem_srt hC]
      unfold memF at hh ⊢
      rw [ObjIs.key hC,look_but schema_layers,look_but schema_config,←ObjIs.key hP]
      exact hh
     ·show (srt (dropA (dropA L configK) layersK)).length+(4+(4*ls.length+1))≤5000
      omega
    obtain ⟨Q,X,hX⟩:=row_is hok
    refine ⟨hok,⟨a2,fun d hd=> (b1 d hd).2⟩, ?_⟩
    rw [hX.right.2]
    show (srt (dropA (dropA L configK) layersK)).length+(4+(4*ls.length+1))=_
    omega
  next=> cases h1
 next=> cases h
theorem set_inv {L X:List V} {key:List UInt8} (h:0 < (setA L key X).length):isO L=true∧rightPF X=true∧rightPF (setF L key X)=true∧setA L key X=setF L key X:=by
 unfold setA at h ⊢
 split at h
 next h6=>
  rw [if_pos h6]
  unfold fineF at h ⊢
  split at h
  next h8=> exact ⟨h6.1,h6.2,h8,if_pos h8⟩
  next=> exact absurd h (Nat.lt_irrefl _)
 next=> exact absurd h (Nat.lt_irrefl _)
theorem set_new {L X:List V} {P:List (List V)} (h:ObjIs L P) {key:List UInt8} (hk:key∉P.map keyOf) (h0:0 < (setA L key X).length):ObjIs (setA L key X) (P++[named key X])∧(setA L key X).length=L.length+X.length:=by
 obtain ⟨_,h1,h2,e⟩:=set_inv h0
 have h3:=h.setIs h1 h2
 rw [←e,idx_none.2 hk]at h3
 refine ⟨h3, ?_⟩
 have l1:=flat_len h3
 have l2:=flat_len h
 have e2:(setP P (named key X) none).flatten.length=P.flatten.length+X.length:=by
  unfold setP
  rw [List.flatten_append,List.length_append,List.flatten_cons,List.flatten_nil,List.append_nil,named_len]
 omega
theorem ok_of {m:Man} (h:rowM m≠[]):OkM m:=by
 unfold rowM at h
 split at h
 next hc=>
  obtain ⟨P,hP,hh,hcK,hlK,hs⟩:=rest_is hc.1
  unfold sortA at h
  split at h
  next hr=>
   have hX:=(right_end hr).2.1
   obtain ⟨i1,i2,_,_⟩:=set_inv hX
   have hY:0 < (setA m.rest configK (rowD m.config)).length:=(right_end (by unfold isO at i1;rw [Bool.and_eq_true]at i1;exact i1.1)).2.1
   obtain ⟨_,i3,_,_⟩:=set_inv hY
   have okc:okD m.config=true:=by
    cases ho:okD m.config with
    | true=> rfl
    | false=>
     rw [rowD_no ho]at i3
     cases i3
   have okl:∀d∈m.layers,okD d=true:=by
    apply Classical.byContradiction
    intro hn
    rw [listA_no hn]at i2
    cases i2
   refine ⟨hc.1,hc.2,okc,okl, ?_⟩
   have hs:=right_short hr
   obtain ⟨a1,a2⟩:=set_new hP hcK hY
   have hl2:layersK∉(P++[named configK (rowD m.config)]).map keyOf:=by
    rw [List.map_append,List.mem_append]
    rintro (h | h)
    ·exact hlK h
    ·rw [rowD_is okc]at h
     have:layersK=configK:=List.mem_singleton.1 h
     revert this
     decide
   obtain ⟨_,b2⟩:=set_new a1 hl2 hX
   have e1:(rowD m.config).length=4:=by rw [rowD_is okc];rfl
   have e2:(listA (m.layers.map rowD)).length=4*m.layers.length+1:=by
    rw [listA_is okl hc.2]
    unfold listV
    rw [List.length_cons,flat_desc]
   omega
  next=> exact absurd rfl h
 next=> exact absurd rfl h
theorem row_ok (m:Man):rowM m=[]∨(OkM m∧rightPF (rowM m)=true):=by
 by_cases h:rowM m=[]
 ·exact .inl h
 ·have hm:=ok_of h
  obtain ⟨P,X,hX⟩:=row_is hm
  exact .inr ⟨hm,hX.right.1⟩
end Jo
end Go.Proofs.YtmkjcleecjjchaaGreatDoor
