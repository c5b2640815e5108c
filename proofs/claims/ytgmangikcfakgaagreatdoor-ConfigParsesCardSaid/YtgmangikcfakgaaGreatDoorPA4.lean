import Derived.Lib.Strings
import Derived.Lib.Bytealg
import Derived.Test.YtgmangikcfakgaaGreatDoorPA3
set_option maxRecDepth 100000
set_option maxHeartbeats 40000000
namespace Go.Proofs.YtgmangikcfakgaaGreatDoor
open Go
namespace Dg
def hexs:List UInt8:=[48,49,50,51,52,53,54,55,56,57,97,98,99,100,101,102]
def hx (k:Nat):UInt8:=hexs.getD k 0
def pairs:List UInt8→List UInt8
 | []=> []
 | b::l=> hx (b.toNat / 16)::hx (b.toNat % 16)::pairs l
def pre:List UInt8:=[115,104,97,50,53,54,58]
def text (d:List UInt8):List UInt8:=pre++pairs d
def val (c:UInt8):Int:=Lib.indexByte hexs c
def byteOf (a b:UInt8):UInt8:=UInt8.ofNat (16*(val a).toNat+(val b).toNat)
def unpair:List UInt8→Option (List UInt8)
 | []=> some []
 | [_]=> none
 | a::b::l=> if val a < 0∨val b < 0 then none else (unpair l).map (byteOf a b::·)
def parse (s:List UInt8):Option (List UInt8):=if Lib.hasPrefix s pre=true∧(Lib.trimPrefix s pre).length=64 then unpair (Lib.trimPrefix s pre) else none
def less:List UInt8→List UInt8→Bool
 | a::l,b::r=> if a=b then less l r else decide (a < b)
 | _,_=> false
theorem qfg {p:UInt8→Prop} (h:∀n,n < 256→p (UInt8.ofNat n)) (c:UInt8):p c:=by
 have:=h c.toNat c.toNat_lt
 rwa [UInt8.ofNat_toNat]at this
theorem qwf:∀k,k < 16→val (hx k)=k:=by decide+kernel
theorem qdf (c:UInt8): -1≤val c∧val c < 16:=qfg (p:=fun c=> -1≤val c∧val c < 16) (by decide+kernel) c
theorem qvg (c:UInt8):0≤val c→hx (val c).toNat=c:=qfg (p:=fun c=> 0≤val c→hx (val c).toNat=c) (by decide+kernel) c
theorem qby (d:List UInt8):(pairs d).length=2*d.length:=by
 induction d with
 | nil=> rfl
 | cons b l ih=> simp only [pairs,List.length_cons,ih];omega
theorem qop (a b:List UInt8):pairs (a++b)=pairs a++pairs b:=by
 induction a with
 | nil=> rfl
 | cons x l ih=> simp only [List.cons_append,pairs,ih]
theorem qf5 (d:List UInt8):(text d).length=7+2*d.length:=by
 rw [text,List.length_append,qby];rfl
theorem qo3 (d:List UInt8):unpair (pairs d)=some d:=by
 induction d with
 | nil=> rfl
 | cons b l ih=>
  have hb:=b.toNat_lt
  have h1:=qwf (b.toNat / 16) (by omega)
  have h2:=qwf (b.toNat % 16) (by omega)
  simp only [pairs,unpair]
  rw [if_neg (by omega),ih,Option.map_some,byteOf,h1,h2];congr 2
  rw [Int.toNat_natCast,Int.toNat_natCast,Nat.div_add_mod,UInt8.ofNat_toNat]
theorem qhr:∀(t d:List UInt8),unpair t=some d→pairs d=t
 | [],d,h=> by simp only [unpair,Option.some.injEq]at h;subst h;rfl
 | [_],d,h=> by simp [unpair]at h
 | a::b::l,d,h=> by
  unfold unpair at h;split at h
  ·cases h
  ·rename_i hn
   obtain ⟨d',h1,h2⟩:=Option.map_eq_some_iff.1 h
   subst h2;have ih:=qhr l d' h1
   have ra:=qdf a
   have rb:=qdf b
   have e:(byteOf a b).toNat=16*(val a).toNat+(val b).toNat:=by
    rw [byteOf,UInt8.toNat_ofNat'];omega
   simp only [pairs]
   rw [ih,e,show (16*(val a).toNat+(val b).toNat) / 16=(val a).toNat by omega,show (16*(val a).toNat+(val b).toNat) % 16=(val b).toNat by omega,qvg a (by omega),qvg b (by omega)]
theorem qci (s:List UInt8):Lib.hasPrefix s pre=true↔∃t,s=pre++t:=by
 unfold Lib.hasPrefix
 rw [List.isPrefixOf_iff_prefix]
 exact ⟨fun ⟨t,h⟩=> ⟨t,h.symm⟩,fun ⟨t,h⟩=> ⟨t,h.symm⟩⟩
theorem qpp (t:List UInt8):Lib.trimPrefix (pre++t) pre=t:=by
 rw [Lib.trimPrefix,if_pos ((qci _).2 ⟨t,rfl⟩),List.drop_left]
theorem qng (t:List UInt8):parse (pre++t)=if t.length=64 then unpair t else none:=by
 rw [parse,qpp]
 by_cases h:t.length=64
 ·rw [if_pos ⟨(qci _).2 ⟨t,rfl⟩,h⟩,if_pos h]
 ·rw [if_neg (fun hh=> h hh.2),if_neg h]
theorem qlf {s d:List UInt8} (h:parse s=some d):text d=s∧d.length=32:=by
 unfold parse at h
 split at h
 ·rename_i hc
  obtain ⟨t,rfl⟩:=(qci s).1 hc.1
  rw [qpp]at h hc
  have hp:=qhr t d h
  refine ⟨by rw [text,hp], ?_⟩
  have:=qby d
  rw [hp,hc.2]at this
  omega
 ·cases h
theorem qu0 (d:List UInt8) (h:d.length=32):parse (text d)=some d:=by
 rw [text,qng,if_pos (by rw [qby];omega),qo3]
end Dg
end Go.Proofs.YtgmangikcfakgaaGreatDoor
namespace Go.Proofs.YtgmangikcfakgaaGreatDoor
open Go
namespace Jo
open Jt Js
def srt (l:List V):List V:=sortF l.length l
def textOf:List V→List UInt8
 | []=> []
 | v::_=> v.text
theorem quq (key:List UInt8) (f:Nat) (l:List V):sortF f (named key l)=named key (sortF f l):=by
 match f,l with
 | 0,_=> rfl
 | f+1,[]=> rfl
 | f+1,v::r=> rfl
theorem qwc (key:List UInt8) (l:List V):srt (named key l)=named key (srt l):=by
 unfold srt
 rw [qbs,quq]
theorem qme (l:List V):keyOf (srt l)=keyOf l:=by cases l <;> rfl
theorem q0d (l:List V):kindOf (srt l)=kindOf l:=by cases l <;> rfl
theorem qzm (l:List V):textOf (srt l)=textOf l:=by cases l <;> rfl
theorem qu7 (l:List V):countOf (srt l)=countOf l:=by cases l <;> rfl
theorem qb2 {d:Nat} {o:Bool} {ks:List (List UInt8)} {P:List (List V)} (h:Parts d o ks P):Ends P:=by
 induction h with
 | nil=> exact fun _ hp=> by cases hp
 | @cons v l t ks P h r ih=>
  intro p hp;rcases List.mem_cons.1 hp with rfl | hp
  ·have:=qcr h []
   rw [List.append_nil]at this
   exact this
  ·exact ih p hp
theorem qh1 {d:Nat} {o:Bool} {ks:List (List UInt8)} {P:List (List V)} (h:Parts d o ks P):Parts d o ks (P.map srt):=by
 induction h with
 | nil=> exact .nil
 | @cons v l t ks P h r ih=>
  obtain ⟨l',t',e1,e2,_⟩:=qgv (v::l).length d o v l t (Nat.le_refl _) h
  rw [List.map_cons];have e:srt (v::l)=v::l':=e1
  rw [e];exact .cons e2.one ih
theorem qnx {d:Nat} {o:Bool} {ks:List (List UInt8)} {P:List (List V)} (h:Parts d o ks P):∀ {f:Nat},P.flatten.length≤f→P.map (sortF f)=P.map srt:=by
 induction h with
 | nil=> exact fun _=> rfl
 | @cons v l t ks P h r ih=>
  intro f hf;rw [List.flatten_cons,List.length_append,List.length_cons]at hf
  rw [List.map_cons,List.map_cons,ih (by omega),qw0 f (l.length+1) d o v l t (by omega) (Nat.le_refl _) h];rfl
theorem ObjIs.srt {L:List V} {P:List (List V)} (h:ObjIs L P):ObjIs (srt L) (ordF (P.map srt)):=by
 obtain ⟨ks,hp⟩:=h.parts
 have hlen:(ordF (P.map Jo.srt)).length=P.length:=by rw [←(qa1 _).length_eq,List.length_map]
 have hr:=hp.read []
 rw [List.append_nil]at hr
 have e:Jo.srt L=⟨6,[],[],(P.length:Nat)⟩::(ordF (P.map Jo.srt)).flatten:=by
  unfold Jo.srt;rw [h.eq,List.length_cons,sortF];dsimp only
  rw [Int.toNat_natCast,hp.len,hr,←hp.len,qnx hp (Nat.le_refl _),if_pos (show isObj _=true from rfl)];rfl
 have hright:rightPF (Jo.srt L)=true:=by
  obtain ⟨t,ht⟩:=(qa4 L).1 h.right
  obtain ⟨t',h1,_⟩:=qpj ht
  exact (qa4 _).2 ⟨t',h1⟩
 obtain ⟨ks2,_,hp2⟩:=Parts.perm (qa1 (P.map Jo.srt)) (qh1 hp)
 rw [e]at hright ⊢
 exact ObjIs.of hlen.symm hright (qb2 hp2)
theorem qjx:∀ {P:List (List V)} {key:List UInt8} {p:List V},(P.map keyOf).Nodup→p∈P→keyOf p=key→look P key=named [] p
 | q::P,key,p,hn,hm,hk=> by
  rw [List.map_cons,List.nodup_cons]at hn
  rw [qa2];rcases List.mem_cons.1 hm with rfl | hm
  ·rw [if_pos hk]
  ·rw [if_neg (fun e=> hn.1 (List.mem_map.2 ⟨p,hm,hk.trans e.symm⟩))]
   exact qjx hn.2 hm hk
theorem qst {P:List (List V)} {key:List UInt8} (h:key∉P.map keyOf):look P key=[]:=by
 unfold look
 rw [qdy.2 h]
theorem qw4 {P Q:List (List V)} (key:List UInt8) (h:P.Perm Q) (hn:(P.map keyOf).Nodup):look P key=look Q key:=by
 by_cases hm:key∈P.map keyOf
 ·obtain ⟨p,hp,hk⟩:=List.mem_map.1 hm
  rw [qjx hn hp hk,qjx ((h.map keyOf).nodup_iff.1 hn) (h.mem_iff.1 hp) hk]
 ·rw [qst hm,qst (fun h2=> hm ((h.map keyOf).mem_iff.2 h2))]
theorem qqj (key:List UInt8):∀P:List (List V),look (P.map srt) key=srt (look P key)
 | []=> rfl
 | p::P=> by
  rw [List.map_cons,qa2,qa2,qme,qqj key P];split
  ·rw [qwc]
  ·rfl
theorem qc8 (P:List (List V)):(P.map srt).map keyOf=P.map keyOf:=by
 rw [List.map_map]
 exact List.map_congr_left fun p _=> qme p
theorem qlv {L:List V} {P:List (List V)} (h:ObjIs L P) (key:List UInt8):cutA (srt L) (plc (getA (srt L) 0 key))=srt (cutA L (plc (getA L 0 key))):=by
 rw [(ObjIs.srt h).look,h.look,←qw4 key (qa1 _) (by rw [qc8];exact h.nodup),qqj]
def butF (key:List UInt8) (P:List (List V)):List (List V):=P.filter fun p=> decide (keyOf p≠key)
theorem qfk {key:List UInt8} {p:List V} (h:keyOf p≠key) (P:List (List V)):butF key (p::P)=p::butF key P:=by
 unfold butF
 rw [List.filter_cons,if_pos (by exact decide_eq_true h)]
theorem qdu {key:List UInt8} {p:List V} (h:keyOf p=key) (P:List (List V)):butF key (p::P)=butF key P:=by
 unfold butF
 rw [List.filter_cons,if_neg (by rw [decide_eq_true_eq];exact fun e=> e h)]
theorem qfa:∀ {P:List (List V)} {key:List UInt8},key∉P.map keyOf→butF key P=P:=by
 intro P key h
 refine List.filter_eq_self.2 fun p hp=> decide_eq_true fun e=> h (List.mem_map.2 ⟨p,hp,e⟩)
theorem qnv:∀ {P:List (List V)} {key:List UInt8} {j:Nat},(P.map keyOf).Nodup→idxF key P=some j→P.eraseIdx j=butF key P
 | p::P,key,j,hn,h=> by
  rw [List.map_cons,List.nodup_cons]at hn
  rw [idxF]at h
  split at h
  next hk=>
   cases h
   rw [List.eraseIdx_cons_zero,qdu hk];exact (qfa (by rw [←hk];exact hn.1)).symm
  next hk=>
   obtain ⟨i,hi,rfl⟩:=Option.map_eq_some_iff.1 h
   rw [List.eraseIdx_cons_succ,qfk hk,qnv hn.2 hi]
theorem ObjIs.but {L:List V} {P:List (List V)} (h:ObjIs L P) (key:List UInt8):ObjIs (dropA L key) (butF key P):=by
 cases hi:idxF key P with
 | none=>
  rw [h.drop0 hi,qfa (qdy.1 hi)];exact h
 | some j=>
  rw [←qnv h.nodup hi];exact h.dropIs hi
theorem qhd (key:List UInt8) (P:List (List V)):key∉(butF key P).map keyOf:=fun hm=> by
 obtain ⟨p,hp,hk⟩:=List.mem_map.1 hm
 exact of_decide_eq_true (List.mem_filter.1 hp).2 hk
theorem qsg (key:List UInt8) (P:List (List V)) {k:List UInt8} (h:k∉P.map keyOf):k∉(butF key P).map keyOf:=fun hm=> by
 obtain ⟨p,hp,hk⟩:=List.mem_map.1 hm
 exact h (List.mem_map.2 ⟨p,(List.mem_filter.1 hp).1,hk⟩)
theorem qh8 {d:Nat} {o:Bool} {ks ks2:List (List UInt8)} {P Q:List (List V)} (h:Parts d o ks P) (h2:Parts d o ks2 Q):Parts d o (ks++ks2) (P++Q):=by
 induction h with
 | nil=> exact h2
 | cons h _ ih=> exact .cons h ih
theorem ObjIs.perm {L:List V} {P Q:List (List V)} (h:ObjIs L P) (hp:P.Perm Q):ObjIs (⟨6,[],[],(Q.length:Nat)⟩::Q.flatten) Q:=by
 obtain ⟨ks,hk⟩:=h.parts
 obtain ⟨ks2,h1,h2⟩:=Parts.perm hp hk
 have hn:ks2.Nodup:=h1.nodup_iff.1 (by rw [←qcw hk];exact h.nodup)
 refine ObjIs.of rfl (qbt (qbw _) h2 rfl (fun _=> hn) ?_) (qb2 h2)
 have:=qbc h.right
 rw [h.eq,List.length_cons]at this
 rw [List.length_cons,←hp.flatten.length_eq]
 exact this
theorem ObjIs.same {L M:List V} {P:List (List V)} (h:ObjIs L P) (h2:ObjIs M P):L=M:=h.eq.trans h2.eq.symm
theorem qzg {L M:List V} {P Q:List (List V)} (h:ObjIs L P) (h2:ObjIs M Q) (hp:P.Perm Q):srt L=srt M:=by
 have e:ordF (P.map srt)=ordF (Q.map srt):=by
  refine qgj _ _ ((qa1 _).symm.trans ((hp.map srt).trans (qa1 _))) (qc1 _ ?_) (qc1 _ ?_)
  ·rw [qc8];exact h.nodup
  ·rw [qc8];exact h2.nodup
 have h3:=ObjIs.srt h2
 rw [←e]at h3
 exact (ObjIs.srt h).same h3
theorem qcn {L:List V} (h:rightPF L=true):srt (srt L)=srt L∧rightPF (srt L)=true∧(srt L).length=L.length:=by
 obtain ⟨t,ht⟩:=(qa4 L).1 h
 obtain ⟨t',h1,h2,_,h3⟩:=qpj ht
 refine ⟨?_,(qa4 _).2 ⟨t',h1⟩,h2⟩
 show sortF (sortF L.length L).length (sortF L.length L)=_
 rw [h2]
 exact h3
theorem ObjIs.add {L:List V} {P:List (List V)} (h:ObjIs L P) {key:List UInt8} {v:V} {l:List V} {t:List UInt8} (hM:rightPF (v::l)=true) (ho:One 1 true {v with key:=key} l t) (hg:key∉P.map keyOf) (hl:L.length+(l.length+1)≤5000):
  ObjIs (setA L key (v::l)) (P++[{v with key:=key}::l])∧(setA L key (v::l)).length=L.length+(l.length+1):=by
 obtain ⟨ks,hk⟩:=h.parts
 have h2:Parts 1 true (ks++[key]) (P++[{v with key:=key}::l]):=qh8 hk (.cons ho .nil)
 have hn:(ks++[key]).Nodup:=by
  have e:=qcw hk
  rw [←e,List.nodup_append];exact ⟨h.nodup,List.nodup_cons.2 ⟨List.not_mem_nil,List.nodup_nil⟩,fun a ha b hb e2=> hg (by rw [←List.mem_singleton.1 hb,←e2];exact ha)⟩
 have es:setF L key (v::l)=⟨6,[],[],((P++[{v with key:=key}::l]).length:Nat)⟩::(P++[{v with key:=key}::l]).flatten:=by
  have:=h.set key (v::l)
  rw [qdy.2 hg]at this
  exact this
 have hL:=h.eq
 have hr:rightPF (setF L key (v::l))=true:=by
  rw [es];refine qbt (qbw _) h2 rfl (fun _=> hn) ?_
  rw [List.length_cons,List.flatten_append,List.length_append,List.flatten_cons,List.flatten_nil,List.append_nil,List.length_cons];rw [hL,List.length_cons]at hl
  omega
 have e:setA L key (v::l)=setF L key (v::l):=by
  unfold setA fineF;rw [if_pos ⟨h.isO,hM⟩,if_pos hr]
 rw [e]
 refine ⟨?_, ?_⟩
 ·rw [es]
  rw [es]at hr
  exact ObjIs.of rfl hr (qb2 h2)
 ·rw [es,List.length_cons,List.flatten_append,List.length_append,List.flatten_cons,List.flatten_nil,List.append_nil,List.length_cons,hL,List.length_cons]
  omega
theorem q1n {d:Nat} {o:Bool} {ks:List (List UInt8)} {l:List V} {t:List UInt8} (h:Js.Rows d o ks l t):∀ {d2:Nat},d2≤d→Js.Rows d2 o ks l t:=by
 induction h with
 | nil d o=> exact fun _=> .nil _ _
 | one hv hd _ hn hu ih=> exact fun h=> .one hv (Nat.lt_of_le_of_lt h hd) (ih (Nat.succ_le_succ h)) hn hu
 | more hv hd _ hn hu _ ih1 ih2=> exact fun h=> .more hv (Nat.lt_of_le_of_lt h hd) (ih1 (Nat.succ_le_succ h)) hn hu (ih2 h)
theorem qzl {v:V} {o:Bool} (h:Own v o) (key:List UInt8) (hv:validF key=true) (o2:Bool) (h2:o2=false→key=[]):Own {v with key:=key} o2:=⟨h2,hv,h.2.2⟩
theorem qdv {d:Nat} {o:Bool} {v:V} {l:List V} {t:List UInt8} (h:One d o v l t):One 0 false {v with key:=[]} l t:=by
 obtain ⟨ks,q1,q2,q3⟩:=h.kids
 exact ⟨qzl h.own [] qaw false (fun _=> rfl),by decide,ks,q1n q1 (Nat.succ_le_succ (Nat.zero_le _)),q2,q3⟩
theorem qbf {v:V} {l:List V} {t:List UInt8} (h:One 0 false v l t) (hl:l.length+1≤5000):rightPF (v::l)=true:=by
 have:=h.rows
 rw [h.own.1 rfl]at this
 exact (qa4 _).2 ⟨_,hl,this⟩
theorem qhx {L:List V} {a:Nat} (hr:rightPF L=true) (ha:a < L.length):rightPF (cutA L a)=true∧(cutA L a).length=rowE L a∧a+rowE L a≤L.length∧0 < rowE L a:=by
 obtain ⟨t,hl,hrows⟩:=(qa4 L).1 hr
 obtain ⟨d,o,v,l1,t1,x,e,hone⟩:=qr5 hrows a ha
 have hp:=qcr hone x
 rw [←e]at hp
 have hrow:rowE L a=l1.length+1:=by unfold rowE;rw [hp];rfl
 have hlen:a+(l1.length+1)≤L.length:=by
  have:=congrArg List.length e
  rw [List.length_drop,List.length_cons,List.length_append]at this
  omega
 have hc:cutA L a= {v with key:=[]}::l1:=by
  unfold cutA placeB;rw [hr,Bool.and_true,if_pos (decide_eq_true (by omega)),Int.toNat_natCast,hrow,e,List.take_succ_cons,List.take_left];rfl
 refine ⟨?_, ?_,by omega,by omega⟩
 ·rw [hc]
  exact qbf (qdv hone) (by omega)
 ·rw [hc,hrow]
  rfl
end Jo
end Go.Proofs.YtgmangikcfakgaaGreatDoor
namespace Go.Proofs.YtgmangikcfakgaaGreatDoor
open Go
namespace Jo
open Jt Js
def mediaK:List UInt8:=[109,101,100,105,97,84,121,112,101]
def digK:List UInt8:=[100,105,103,101,115,116]
def sizeK:List UInt8:=[115,105,122,101]
def schemaK:List UInt8:=[115,99,104,101,109,97,86,101,114,115,105,111,110]
def configK:List UInt8:=[99,111,110,102,105,103]
def layersK:List UInt8:=[108,97,121,101,114,115]
structure Desc where
 media:List UInt8
 dig:List UInt8
 size:Int
structure Man where
 config:Desc
 layers:List Desc
 rest:List V
def ofKey (L:List V) (key:List UInt8):List V:=cutA L (plc (getA L 0 key))
def tellF (kind:Int) (x:List V):Option (List UInt8):=if kindOf x=kind then some (textOf x) else none
def memF (L:List V) (key:List UInt8) (kind:Int):Option (List UInt8):=tellF kind (ofKey L key)
def sizeOk (n:Int):Bool:=decide (0≤n∧n≤4611686018427387904)
def descF (L:List V):Option Desc:=
 (memF L mediaK 4).bind fun m=> (memF L digK 4).bind fun d=> (memF L sizeK 3).bind fun s=>
  if countOf L=3 then (Dg.parse d).bind fun x=> (intF s).bind fun n=> if sizeOk n=true then some ⟨m,x,n⟩ else none else none
def partsL (L:List V):List (List V):=partsP (countOf L).toNat (L.drop 1)
def allD:List (List V)→Option (List Desc)
 | []=> some []
 | p::P=> (descF p).bind fun d=> (allD P).bind fun r=> some (d::r)
def hasF (L:List V):Bool:=decide (memF L schemaK 3=some [50])
def sortA (L:List V):List V:=if rightPF L=true then srt L else []
def okD (d:Desc):Bool:=validF d.media && sizeOk d.size
def rowD (d:Desc):List V:=if okD d=true then objA [mediaK,digK,sizeK] [[⟨4,[],fixF d.media,0⟩],[⟨4,[],fixF (Dg.text d.dig),0⟩],[⟨3,[],textF d.size,0⟩]] else []
def restOk (L:List V):Bool:=hasF L && decide (getA L 0 configK=none) && decide (getA L 0 layersK=none) && decide (sortA L=L)
def rowM (m:Man):List V:=if restOk m.rest=true∧m.layers.length≤60 then sortA (setA (setA m.rest configK (rowD m.config)) layersK (listA (m.layers.map rowD))) else []
def kidsD (d:Desc):List V:=[⟨4,mediaK,d.media,0⟩,⟨4,digK,Dg.text d.dig,0⟩,⟨3,sizeK,textF d.size,0⟩]
def descV (d:Desc):List V:=⟨6,[],[],3⟩::kidsD d
theorem qw5 {a:UInt8} (h:a.toNat < 128) (r:List UInt8):validF (a::r)=validF r:=by
 have hs:scalar a.toNat=true:=qal.2 (.inl (by omega))
 have:=qhc hs r
 unfold bytesF at this
 rw [if_pos h,ofN a _ rfl]at this
 exact this
theorem qax:∀s:List UInt8,(∀a∈s,a.toNat < 128)→validF s=true
 | [],_=> qa8
 | a::r,h=> by
  rw [qw5 (h a List.mem_cons_self)];exact qax r fun x hx=> h x (List.mem_cons_of_mem _ hx)
theorem qvq:∀k,(Dg.hx k).toNat < 128:=by
 intro k
 unfold Dg.hx
 by_cases h:k < 16
 ·revert k
  decide
 ·have e:Dg.hexs.getD k 0=0:=by
   rw [List.getD_eq_getElem?_getD,List.getElem?_eq_none (by show 16≤k;omega)]
   rfl
  rw [e];decide
theorem qmr:∀(d:List UInt8),∀a∈Dg.pairs d,a.toNat < 128
 | [],a,h=> by cases h
 | b::r,a,h=> by
  rw [Dg.pairs]at h
  rcases List.mem_cons.1 h with rfl | h
  ·exact qvq _
  rcases List.mem_cons.1 h with rfl | h
  ·exact qvq _
  ·exact qmr r a h
theorem qes (d:List UInt8):validF (Dg.text d)=true:=by
 refine qax _ fun a ha=> ?_
 unfold Dg.text at ha
 rcases List.mem_append.1 ha with ha | ha
 ·exact (show ∀a∈Dg.pre,a.toNat < 128 by decide) a ha
 ·exact qmr d a ha
theorem qqu:validF layersK=true:=qax _ (by decide)
def listV (ls:List Desc):List V:=⟨5,[],[],(ls.length:Nat)⟩::(ls.map descV).flatten
end Jo
end Go.Proofs.YtgmangikcfakgaaGreatDoor
namespace Go.Proofs.YtgmangikcfakgaaGreatDoor
open Go
namespace Jo
open Jt Js
theorem qki {key:List UInt8} (Q:List (List V)):∀ {P:List (List V)},key∉P.map keyOf→look (P++Q) key=look Q key
 | [],_=> rfl
 | p::P,h=> by
  rw [List.map_cons,List.mem_cons,not_or]at h
  rw [List.cons_append,qa2,if_neg (fun e=> h.1 e.symm),qki Q h.2]
theorem qg3 {key other:List UInt8} (h:other≠key):∀P:List (List V),look (butF key P) other=look P other
 | []=> rfl
 | p::P=> by
  by_cases hk:keyOf p=key
  ·rw [qdu hk,qa2,if_neg (fun e=> h (e.symm.trans hk)),qg3 h P]
  ·rw [qfk hk,qa2,qa2,qg3 h P]
theorem qsf {key:List UInt8}:∀ {P:List (List V)},(P.map keyOf).Nodup→(butF key P).flatten.length+(look P key).length=P.flatten.length
 | [],_=> rfl
 | p::P,hn=> by
  rw [List.map_cons,List.nodup_cons]at hn
  by_cases hk:keyOf p=key
  ·rw [qdu hk,qa2,if_pos hk,qbs,List.flatten_cons,List.length_append,qfa (P:=P) (key:=key) (by rw [←hk];exact hn.1)]
   omega
  ·rw [qfk hk,qa2,if_neg hk,List.flatten_cons,List.length_append,List.flatten_cons,List.length_append]
   have:=qsf (key:=key) hn.2
   omega
theorem qfd {L:List V} {P:List (List V)} (h:ObjIs L P):L.length=P.flatten.length+1:=by rw [h.eq,List.length_cons]
theorem ObjIs.key {L:List V} {P:List (List V)} (h:ObjIs L P) (key:List UInt8):ofKey L key=Jo.look P key:=h.look key
theorem qc7 {L:List V} {P:List (List V)} (h:ObjIs L P) (key:List UInt8):(dropA L key).length+(ofKey L key).length=L.length:=by
 have h1:=qfd h
 have h2:=qfd (ObjIs.but h key)
 have h3:=qsf (key:=key) h.nodup
 rw [ObjIs.key h key]
 omega
theorem qce {L:List V} {P:List (List V)} (h:ObjIs L P) (key:List UInt8):getA L 0 key=none↔key∉P.map keyOf:=by
 rw [h.get,Option.map_eq_none_iff]
 exact qdy
theorem qbh {L:List V} {key:List UInt8} (h:getA L 0 key=none):ofKey L key=[]:=by
 unfold ofKey
 rw [h]
 unfold cutA placeB plc
 rfl
theorem qcv {L:List V} {key:List UInt8} (h:ofKey L key≠[]):isO L=true:=by
 cases hg:getA L 0 key with
 | none=> exact absurd (qbh hg) h
 | some p=>
  unfold getA at hg;split at hg
  next hc=>
   unfold isO;have h1:=hc.1
   have h2:=hc.2
   unfold placeB at h1;rw [Bool.and_eq_true]at h1
   rw [h1.2,Bool.true_and,decide_eq_true_eq];exact h2
  next=> cases hg
theorem qo9 {L:List V} {key t:List UInt8} {kind:Int} (hk:kind≠ -1) (h:memF L key kind=some t):isO L=true∧kindOf (ofKey L key)=kind∧textOf (ofKey L key)=t:=by
 unfold memF tellF at h
 split at h
 next hc=>
  refine ⟨qcv (key:=key) fun e=> ?_,hc,Option.some.inj h⟩
  rw [e]at hc
  exact hk hc.symm
 next=> cases h
theorem q08 {L:List V} {P:List (List V)} (h:ObjIs L P) (key:List UInt8) (kind:Int):memF (srt L) key kind=memF L key kind:=by
 unfold memF ofKey tellF
 rw [qlv h,q0d,qzm]
theorem qqm {n:Nat} {ks:List (List UInt8)} {P:List (List V)} (hp:Parts 1 false ks P) (hn:P.length=n):srt (⟨5,[],[],(n:Nat)⟩::P.flatten)=⟨5,[],[],(n:Nat)⟩::(P.map srt).flatten:=by
 subst hn
 have hr:=hp.read []
 rw [List.append_nil]at hr
 unfold srt
 rw [List.length_cons,sortF]
 dsimp only
 rw [Int.toNat_natCast,hp.len,hr,qnx hp (Nat.le_refl _),if_neg (show ¬isObj ⟨5,[],[],(ks.length:Nat)⟩=true from fun e=> absurd (of_decide_eq_true e) (show ¬(5:Int)=6 by decide))]
 rfl
theorem qkr {n:Nat} {ks:List (List UInt8)} {P:List (List V)} (hp:Parts 1 false ks P) (hn:P.length=n):partsL (⟨5,[],[],(n:Nat)⟩::P.flatten)=P:=by
 subst hn
 have hr:=qds hp []
 rw [List.append_nil,←hp.len]at hr
 exact hr
theorem all_map {f:Desc→List V}:∀ {ls:List Desc},(∀d∈ls,descF (f d)=some d)→allD (ls.map f)=some ls
 | [],_=> rfl
 | d::r,h=> by
  rw [List.map_cons,allD,h d List.mem_cons_self,all_map fun x hx=> h x (List.mem_cons_of_mem _ hx)];rfl
structure RowIs (m:Man) (P:List (List V)) (X:List V):Prop where
 rest:ObjIs m.rest P
 has:hasF m.rest=true
 noC:configK∉P.map keyOf
 noL:layersK∉P.map keyOf
 same:srt m.rest=m.rest
 obj:ObjIs X (P++[named configK (descV m.config)]++[named layersK (listV m.layers)])
 row:rowM m=srt X
 len:X.length=m.rest.length+(4+(4*m.layers.length+1))
theorem RowIs.right {m:Man} {P:List (List V)} {X:List V} (h:RowIs m P X):rightPF (rowM m)=true∧(rowM m).length=m.rest.length+(4+(4*m.layers.length+1)):=by
 rw [h.row]
 obtain ⟨_,h1,h2⟩:=qcn h.obj.right
 exact ⟨h1,h2.trans h.len⟩
theorem qpm {key:List UInt8} {P Q:List (List V)} (h:P.Perm Q):(butF key P).Perm (butF key Q):=h.filter _
theorem qse (key:List UInt8) (P Q:List (List V)):butF key (P++Q)=butF key P++butF key Q:=List.filter_append _ _
end Jo
end Go.Proofs.YtgmangikcfakgaaGreatDoor
namespace Go.Proofs.YtgmangikcfakgaaGreatDoor
open Go
namespace Jo
open Jt Js
theorem qnt {P:List (List V)} {key:List UInt8} (h:look P key≠[]):∃p∈P,keyOf p=key∧look P key=named [] p:=by
 cases hi:idxF key P with
 | none=>
  refine absurd ?_ h
  unfold look;rw [hi]
 | some j=>
  obtain ⟨hj,hk,_⟩:=qcu hi
  refine ⟨P[j],List.getElem_mem hj,hk, ?_⟩
  unfold look;rw [hi];show named [] (P.getD j [])=_
  rw [List.getD_eq_getElem?_getD,List.getElem?_eq_getElem hj,Option.getD_some]
theorem qud (key:List UInt8) (l:List V):kindOf (named key l)=kindOf l:=by cases l <;> rfl
theorem qtq (key:List UInt8) (l:List V):textOf (named key l)=textOf l:=by cases l <;> rfl
theorem qoi {L:List V} {P:List (List V)} (h:ObjIs L P) {key t:List UInt8} {kind:Int} (hk:kind≠ -1) (hm:memF L key kind=some t):∃p∈P,keyOf p=key∧kindOf p=kind∧textOf p=t:=by
 obtain ⟨_,h1,h2⟩:=qo9 hk hm
 rw [ObjIs.key h]at h1 h2
 obtain ⟨p,hp,hkey,e⟩:=qnt (P:=P) (key:=key) (fun e=> by rw [e]at h1;exact hk h1.symm)
 rw [e,qud]at h1
 rw [e,qtq]at h2
 exact ⟨p,hp,hkey,h1,h2⟩
theorem qsp {L:List V} {P:List (List V)} (h:ObjIs L P) {p:List V} (hp:p∈P):∃v l t,p=v::l∧One 1 true v l t:=by
 obtain ⟨ks,hk⟩:=h.parts
 obtain ⟨v,l,t,e,ho,_⟩:=qig hk p hp
 exact ⟨v,l,t,e,ho⟩
theorem qfu {L:List V} {P:List (List V)} (h:ObjIs L P) {key:List UInt8} (hk:ofKey L key≠[]):rightPF (ofKey L key)=true:=by
 cases hi:idxF key P with
 | none=> exact absurd (qbh (by rw [h.get,hi];rfl)) hk
 | some j=>
  obtain ⟨hj,_,_⟩:=qcu hi
  have e:ofKey L key=cutA L ((1+offs P j:Nat):Int):=by
   unfold ofKey;rw [h.get,hi];rfl
  rw [e];exact (qhx h.right (h.at_ hj).1).1
theorem qio {L X:List V} {key:List UInt8} (h:0 < (setA L key X).length):isO L=true∧rightPF X=true∧rightPF (setF L key X)=true∧setA L key X=setF L key X:=by
 unfold setA at h ⊢
 split at h
 next h6=>
  rw [if_pos h6];unfold fineF at h ⊢
  split at h
  next h8=> exact ⟨h6.1,h6.2,h8,if_pos h8⟩
  next=> exact absurd h (Nat.lt_irrefl _)
 next=> exact absurd h (Nat.lt_irrefl _)
theorem qf8 {L X:List V} {P:List (List V)} (h:ObjIs L P) {key:List UInt8} (hk:key∉P.map keyOf) (h0:0 < (setA L key X).length):ObjIs (setA L key X) (P++[named key X])∧(setA L key X).length=L.length+X.length:=by
 obtain ⟨_,h1,h2,e⟩:=qio h0
 have h3:=h.setIs h1 h2
 rw [←e,qdy.2 hk]at h3
 refine ⟨h3, ?_⟩
 have l1:=qfd h3
 have l2:=qfd h
 have e2:(setP P (named key X) none).flatten.length=P.flatten.length+X.length:=by
  unfold setP;rw [List.flatten_append,List.length_append,List.flatten_cons,List.flatten_nil,List.append_nil,qbs]
 omega
end Jo
end Go.Proofs.YtgmangikcfakgaaGreatDoor
