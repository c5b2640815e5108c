import Derived.Test.YtgmangikcfakgaaGreatDoorPL3
namespace Go.Proofs.YtgmangikcfakgaaGreatDoor
open Go
namespace Js
open Jt
def placesF:Nat→List (List V)→List (Nat×List V)
 | _,[]=> []
 | k,p::r=> (k,p)::placesF (k+p.length) r
theorem places_row:∀(P:List (List V)) (k:Nat),(placesF k P).map (·.2)=P
 | [],_=> rfl
 | p::r,k=> by rw [placesF,List.map_cons,places_row r]
theorem places_at (L:List V):∀(P:List (List V)) (x:List V) (k:Nat),L.drop k=P.flatten++x→∀q∈placesF k P,∃y,L.drop q.1=q.2++y
 | [],_,_,_,q,hq=> by cases hq
 | p::r,x,k,h,q,hq=> by
  rw [List.flatten_cons,List.append_assoc]at h
  rcases List.mem_cons.1 hq with rfl | hq
  ·exact ⟨_,h⟩
  ·refine places_at L r x (k+p.length) ?_ q hq
   rw [←List.drop_drop,h,List.drop_left]
structure KidS (L x:List V) (d:Nat) (o:Bool) (All D:List (Nat×List V)) (k:Nat) (R:List (List V)):Prop where
 eq:All=D++placesF k R
 drop:L.drop k=R.flatten++x
 ones:∀p∈R,∃v2 l2 t2,p=v2::l2∧One d o v2 l2 t2
theorem KidS.start {L x:List V} {a d:Nat} {ob:Bool} {v:V} {r:List V} {t:List UInt8} (h:One d ob v r t) (hd:L.drop a=v::(r++x)):KidS L x (d+1) (isObj v) (placesF (a+1) (ownParts v r)) [] (a+1) (ownParts v r):=by
 obtain ⟨ks,h1,h2,h3,h4,_⟩:=own_parts h []
 rw [List.append_nil]at h1 h4
 refine ⟨rfl, ?_,fun p hp=> ?_⟩
 ·rw [h4,←List.drop_drop,hd]
  rfl
 ·obtain ⟨a,b,c,e,o,_⟩:=part_one h p hp
  exact ⟨a,b,c,e,o⟩
theorem KidS.count {d:Nat} {ob:Bool} {v:V} {r:List V} {t:List UInt8} (h:One d ob v r t):((ownParts v r).length:Int)=v.count∧(ownParts v r).length≤r.length:=by
 obtain ⟨ks,h1,h2,h3,h4,_⟩:=own_parts h []
 rw [List.append_nil]at h1 h4
 have hp:=part_one h
 refine ⟨by rw [h1.len];exact h2, ?_⟩
 have few:∀P:List (List V),(∀p∈P,0 < p.length)→P.length≤P.flatten.length:=fun P=> by
  induction P with
  | nil=> exact fun _=> Nat.le_refl _
  | cons p P ih=>
   intro h
   have:=ih (fun q hq=> h q (List.mem_cons_of_mem _ hq))
   have:=h p List.mem_cons_self
   rw [List.length_cons,List.flatten_cons,List.length_append]
   omega
 have:=few (ownParts v r) (fun p hp2=> by
  obtain ⟨a,b,c,e,_⟩:=hp p hp2
  rw [e]
  exact Nat.succ_pos _)
 rw [h4]at this
 exact this
theorem KidS.next {L x:List V} {d:Nat} {o:Bool} {All D:List (Nat×List V)} {k:Nat} {p:List V} {R:List (List V)} (h:KidS L x d o All D k (p::R)):k < L.length∧endW (L.drop k) 1=some p.length∧KidS L x d o All (D++[(k,p)]) (k+p.length) R:=by
 obtain ⟨v2,l2,t2,e,ho⟩:=h.ones p List.mem_cons_self
 have hd:=h.drop
 rw [List.flatten_cons,List.append_assoc]at hd
 refine ⟨?_, ?_,⟨?_, ?_,fun q hq=> h.ones q (List.mem_cons_of_mem _ hq)⟩⟩
 ·have:=congrArg List.length hd
  rw [List.length_drop,e,List.length_append,List.length_cons]at this
  omega
 ·rw [hd,e,List.cons_append]
  exact end_one ho _
 ·rw [h.eq,placesF,List.append_assoc]
  rfl
 ·rw [←List.drop_drop,hd,List.drop_left]
def ordO (o:Bool) (P:List (List V)):List (List V):=if o=true then ordF P else P
structure LeftS (L:List V) (d:Nat) (o:Bool) (S:List (Nat×List V)):Prop where
 ins:∀q∈S,∃y,L.drop q.1=q.2++y
 ones:∀q∈S,∃v2 l2 t2,q.2=v2::l2∧One d o v2 l2 t2
 keys:o=true→((S.map (·.2)).map keyOf).Nodup
theorem LeftS.start {L x:List V} {a d:Nat} {ob:Bool} {v:V} {r:List V} {t:List UInt8} (h:One d ob v r t) (hd:L.drop a=v::(r++x)):LeftS L (d+1) (isObj v) (placesF (a+1) (ownParts v r)):=by
 have k:=KidS.start h hd
 have hrow:=places_row (ownParts v r) (a+1)
 refine ⟨places_at L _ x _ k.drop,fun q hq=> ?_,fun ho=> ?_⟩
 ·refine k.ones q.2 ?_
  rw [←hrow]
  exact List.mem_map.2 ⟨q,hq,rfl⟩
 ·rw [hrow]
  exact (sort_ordP (f:=r.length) h (Nat.le_refl _)).2.2.2 ho
theorem LeftS.cut {L:List V} {d:Nat} {o:Bool} {S:List (Nat×List V)} (h:LeftS L d o S) (m:Nat):LeftS L d o (S.take m++S.drop (m+1)):=by
 rw [←List.eraseIdx_eq_take_drop_succ]
 have hs:=List.eraseIdx_sublist S m
 exact ⟨fun q hq=> h.ins q (hs.mem hq),fun q hq=> h.ones q (hs.mem hq),fun ho=> (h.keys ho).sublist ((hs.map _).map _)⟩
theorem LeftS.at_ {L:List V} {d:Nat} {o:Bool} {S:List (Nat×List V)} (h:LeftS L d o S) {i:Nat} (hi:i < S.length):∃hq:S[i].1 < L.length,L[S[i].1].key=keyOf S[i].2:=by
 obtain ⟨y,hy⟩:=h.ins _ (List.getElem_mem hi)
 obtain ⟨v2,l2,t2,e,_⟩:=h.ones _ (List.getElem_mem hi)
 rw [e,List.cons_append]at hy
 have hk:S[i].1 < L.length:=by
  have:=congrArg List.length hy
  rw [List.length_drop,List.length_cons]at this
  omega
 refine ⟨hk, ?_⟩
 rw [List.drop_eq_getElem_cons hk]at hy
 rw [(List.cons.inj hy).1,e]
 rfl
structure Least (o:Bool) (S:List (Nat×List V)) (m i:Nat):Prop where
 lt:m < i
 le:i≤S.length
 zero:o=false→m=0
 less:o=true→∀(j:Nat) (_:j < i) (_:j≠m) (hj:j < S.length) (hm:m < S.length),ltF (keyOf S[m].2) (keyOf S[j].2)=true
theorem Least.first {o:Bool} {S:List (Nat×List V)} (h:0 < S.length):Least o S 0 1:=
 ⟨Nat.one_pos,h,fun _=> rfl,fun _ j h1 h2=> absurd h1 (by omega)⟩
theorem Least.pick {L:List V} {d:Nat} {o:Bool} {S:List (Nat×List V)} {m:Nat} (h:Least o S m S.length) (hs:LeftS L d o S) (hm:m < S.length):ordO o (S.map (·.2))=S[m].2::ordO o ((S.take m++S.drop (m+1)).map (·.2)):=by
 have e:S=S.take m++S[m]::S.drop (m+1):=by rw [←List.drop_eq_getElem_cons hm,List.take_append_drop]
 unfold ordO
 cases o with
 | false=>
  have hz:=h.zero rfl
  subst hz
  rw [if_neg (by decide),if_neg (by decide),List.take_zero,List.nil_append]
  conv=> lhs;rw [e]
  rfl
 | true=>
  rw [if_pos rfl,if_pos rfl]
  have hn:=hs.keys rfl
  have hmap:S.map (·.2)=(S.take m).map (·.2)++S[m].2::(S.drop (m+1)).map (·.2):=by
   conv=> lhs;rw [e]
   rw [List.map_append,List.map_cons]
  rw [hmap]at hn ⊢
  rw [List.map_append]
  refine ord_pick hn fun q hq=> ?_
  rw [←List.map_append]at hq
  obtain ⟨p,hp,rfl⟩:=List.mem_map.1 hq
  rw [←List.eraseIdx_eq_take_drop_succ]at hp
  obtain ⟨i,hi,hne,rfl⟩:=List.mem_eraseIdx_iff_getElem.1 hp
  exact h.less rfl i hi hne hi hm
theorem cut_len (S:List (Nat×List V)) {m:Nat} (hm:m < S.length):(S.map (·.2)).flatten.length=S[m].2.length+((S.take m++S.drop (m+1)).map (·.2)).flatten.length∧(S.take m++S.drop (m+1)).length+1=S.length:=by
 have e:S=S.take m++S[m]::S.drop (m+1):=by rw [←List.drop_eq_getElem_cons hm,List.take_append_drop]
 constructor
 ·conv=> lhs;rw [e]
  simp only [List.map_append,List.map_cons,List.flatten_append,List.flatten_cons,List.length_append]
  omega
 ·rw [List.length_append,List.length_take,List.length_drop]
  omega
structure SoS (L:List V) (f d:Nat) (o:Bool) (v:V) (n:Nat) (All:List (List V)) (out:List V) (S:List (Nat×List V)):Prop where
 rs:LeftS L d o S
 eq:∃D,out=v::(D.map (sortF f)).flatten∧D++ordO o (S.map (·.2))=All
 len:out.length+(S.map (·.2)).flatten.length=n
theorem SoS.start {L x:List V} {a d f:Nat} {ob:Bool} {v:V} {r:List V} {t:List UInt8} (h:One d ob v r t) (hd:L.drop a=v::(r++x)):SoS L f (d+1) (isObj v) v (r.length+1) (ordP v r) [v] (placesF (a+1) (ownParts v r)):=by
 refine ⟨LeftS.start h hd,⟨[],rfl, ?_⟩, ?_⟩
 ·rw [places_row]
  rfl
 ·rw [places_row]
  obtain ⟨ks,h1,h2,h3,h4,_⟩:=own_parts h []
  rw [List.append_nil]at h4
  rw [h4]
  show 1+_=_
  omega
theorem SoS.done {L:List V} {f d n:Nat} {o:Bool} {v:V} {All:List (List V)} {out:List V} (h:SoS L f d o v n All out []):out=v::(All.map (sortF f)).flatten:=by
 obtain ⟨D,e1,e2⟩:=h.eq
 rw [e1,←e2]
 have:ordO o (([]:List (Nat×List V)).map (·.2))=[]:=by unfold ordO;split <;> rfl
 rw [this,List.append_nil]
theorem SoS.next {L:List V} {f d n:Nat} {o:Bool} {v:V} {All:List (List V)} {out:List V} {S:List (Nat×List V)} (h:SoS L f d o v n All out S) {m:Nat} (hl:Least o S m S.length) (hm:m < S.length) (hf:∀p∈All,(sortF f p).length=p.length):
  SoS L f d o v n All (out++sortF f S[m].2) (S.take m++S.drop (m+1))∧(sortF f S[m].2).length=S[m].2.length:=by
 obtain ⟨D,e1,e2⟩:=h.eq
 have hp:=hl.pick h.rs hm
 rw [hp]at e2
 have hlen:=hf S[m].2 (by rw [←e2];simp)
 refine ⟨⟨h.rs.cut m,⟨D++[S[m].2], ?_, ?_⟩, ?_⟩,hlen⟩
 ·rw [e1,List.map_append,List.flatten_append]
  simp
 ·rw [←e2]
  simp
 ·have:=(cut_len S hm).1
  have:=h.len
  rw [List.length_append,hlen]
  omega
end Js
end Go.Proofs.YtgmangikcfakgaaGreatDoor
namespace Go.Proofs.YtgmangikcfakgaaGreatDoor
open Go
namespace Js
open Jt
def PrS (L x:List V) (d:Nat) (o:Bool) (T:List UInt8) (i k g:Nat) (u:List UInt8):Prop:=
 ∃ks l t,Rows d o ks l t∧ks.length=g∧L.drop k=l++x∧(i=0→u=[]∧T=t)∧(0 < i→T=u++(if ks=[] then [] else 44::t))
theorem PrS.start {L x:List V} {a d:Nat} {ob:Bool} {v:V} {r:List V} {t:List UInt8} (h:One d ob v r t) (hd:L.drop a=v::(r++x)) {c:Nat} (hc:v.count=(c:Int)):PrS L x (d+1) (isObj v) t 0 (a+1) c []:=by
 obtain ⟨ks,h1,h2,_⟩:=h.kids
 refine ⟨ks,r,t,h1,by omega, ?_,fun _=> ⟨rfl,rfl⟩,fun h=> absurd h (Nat.lt_irrefl _)⟩
 rw [←List.drop_drop,hd]
 rfl
theorem PrS.done {L x:List V} {d:Nat} {o:Bool} {T:List UInt8} {i k:Nat} {u:List UInt8} (h:PrS L x d o T i k 0 u):u=T:=by
 obtain ⟨ks,l,t,h1,h2,_,h4,h5⟩:=h
 obtain rfl:=List.eq_nil_of_length_eq_zero h2
 obtain ⟨rfl,rfl⟩:=rows_none h1 rfl
 by_cases hi:i=0
 ·obtain ⟨e1,e2⟩:=h4 hi
  rw [e1,e2]
 ·rw [h5 (by omega),if_pos rfl,List.append_nil]
theorem body_has {d:Nat} {o:Bool} {v:V} {l:List V} {t:List UInt8} (h:One d o v l t):t.length≤(body v t).length:=by
 by_cases hg:grp v=true
 ·have h2:=of_decide_eq_true hg
  unfold body
  rcases h2 with h2 | h2 <;> rw [h2]
  ·show t.length≤(91::(t++[93])).length
   rw [List.length_cons,List.length_append]
   omega
  ·show t.length≤(123::(t++[125])).length
   rw [List.length_cons,List.length_append]
   omega
 ·obtain ⟨ks,h1,h2,_⟩:=h.kids
  have h3:=own_leaf h.own (Bool.eq_false_iff.2 hg)
  have hk:ks=[]:=List.eq_nil_of_length_eq_zero (by omega)
  subst hk
  obtain ⟨_,rfl⟩:=rows_none h1 rfl
  exact Nat.zero_le _
def comma (i:Nat) (u:List UInt8):List UInt8:=if i=0 then u else u++[44]
def named58 (o:Bool) (u key:List UInt8):List UInt8:=if o=true then u++quoteF key++[58] else u
theorem PrS.next {L x:List V} {d:Nat} {o:Bool} {T:List UInt8} {i k g:Nat} {u:List UInt8} (h:PrS L x d o T i k (g+1) u):∃v l1 t1 y,One d o v l1 t1∧L.drop k=v::(l1++y)∧k < L.length∧t1.length≤T.length∧endW (L.drop k) 1=some (l1.length+1)∧
  PrS L x d o T (i+1) (k+(l1.length+1)) g (named58 o (comma i u) v.key++body v t1)∧(named58 o (comma i u) v.key++body v t1).length≤T.length:=by
 obtain ⟨ks,l,t,h1,h2,h3,h4,h5⟩:=h
 match ks,h2 with
 | key::ks,h2=>
  obtain ⟨v,l1,l2,t1,t2,e,hk,ho,hr,et⟩:=rows_first h1
  subst e
  rw [List.cons_append,List.append_assoc]at h3
  have hkl:k < L.length:=by
   have:=congrArg List.length h3
   rw [List.length_drop,List.length_cons]at this
   omega
  have hT:T=(named58 o (comma i u) v.key++body v t1)++(if ks=[] then [] else 44::t2):=by
   have hit:∀z:List UInt8,named58 o z v.key++body v t1=z++item o v t1:=fun z=> by
    unfold named58 item
    cases o <;> simp
   rw [hit]
   unfold comma
   by_cases hi:i=0
   ·obtain ⟨e1,e2⟩:=h4 hi
    rw [if_pos hi,e1,e2,et,List.nil_append]
   ·rw [if_neg hi,h5 (by omega),if_neg (List.cons_ne_nil _ _),et]
    simp
  have hlen:(named58 o (comma i u) v.key++body v t1).length≤T.length:=by
   have:=congrArg List.length hT
   simp only [List.length_append]at this ⊢
   omega
  refine ⟨v,l1,t1,l2++x,ho,h3,hkl, ?_, ?_,⟨ks,l2,t2,hr,by rw [List.length_cons]at h2;omega, ?_,fun e=> absurd e (Nat.succ_ne_zero i),fun _=> hT⟩,hlen⟩
  ·have:=body_has ho
   rw [List.length_append]at hlen
   omega
  ·rw [h3]
   exact end_one ho _
  ·rw [←List.drop_drop,h3]
   show (v::(l1++(l2++x))).drop (l1.length+1)=_
   rw [List.drop_succ_cons,List.drop_left]
end Js
end Go.Proofs.YtgmangikcfakgaaGreatDoor
