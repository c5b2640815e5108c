import Derived.Test.YtgmangikcfakgaaGreatDoorPA4
set_option maxRecDepth 100000
set_option maxHeartbeats 40000000
namespace Go.Proofs.YtgmangikcfakgaaGreatDoor
open Go
namespace Jo
open Jt Js
theorem qbb {L:List V} {key:List UInt8} {p:Nat} (h:getA L 0 key=some p):∃hp:p < L.length,kindOf (ofKey L key)=L[p].kind∧textOf (ofKey L key)=L[p].text:=by
 have hO:isO L=true:=by
  unfold getA at h;split at h
  next hc=>
   unfold isO;have h1:=hc.1
   have h2:=hc.2
   unfold placeB at h1;rw [Bool.and_eq_true]at h1
   rw [h1.2,Bool.true_and,decide_eq_true_eq];exact h2
  next=> cases h
 obtain ⟨P,hP⟩:=qbn hO
 have hg:=h
 rw [hP.get]at hg
 obtain ⟨j,hj,rfl⟩:=Option.map_eq_some_iff.1 hg
 obtain ⟨hj2,_,_⟩:=qcu hj
 obtain ⟨hp,_,_⟩:=hP.at_ hj2
 obtain ⟨_,_,_,h0⟩:=qhx hP.right hp
 refine ⟨hp, ?_⟩
 have e:ofKey L key=named [] ((L.drop (1+offs P j)).take (rowE L (1+offs P j))):=by
  unfold ofKey;rw [h];show cutA L ((1+offs P j:Nat):Int)=_
  unfold cutA placeB;rw [hP.right,Bool.and_true,if_pos (decide_eq_true (by omega)),Int.toNat_natCast]
 obtain ⟨k,hk⟩:∃k,rowE L (1+offs P j)=k+1:=⟨rowE L (1+offs P j) - 1,by omega⟩
 rw [e,hk,List.drop_eq_getElem_cons hp,List.take_succ_cons]
 exact ⟨rfl,rfl⟩
theorem qw6 {L:List V} {key:List UInt8} {p:Nat} (h:getA L 0 key=some p) {hp:p < L.length} (k:Int):memF L key k=if L[p].kind=k then some L[p].text else none:=by
 obtain ⟨_,h1,h2⟩:=qbb h
 unfold memF tellF
 rw [h1,h2]
theorem qqr {L:List V} {key:List UInt8} (h:getA L 0 key=none) {k:Int} (hk:k≠ -1):memF L key k=none:=by
 unfold memF tellF
 rw [qbh h]
 exact if_neg fun e=> hk e.symm
theorem qu6 {L:List V} {key:List UInt8} {p:Nat} (h:getA L 0 key=some p) (k:Int):memF L key k=if kindOf (L.drop p)=k then some (textOf (L.drop p)) else none:=by
 obtain ⟨hp,h1,h2⟩:=qbb h
 unfold memF tellF
 rw [h1,h2,List.drop_eq_getElem_cons hp]
 rfl
theorem qmk:∀ {P:List (List V)} {j:Nat} (hj:j < P.length),offs P (j+1)=offs P j+P[j].length
 | p::P,0,_=> by rw [qdd,qnb,qnb];simp
 | p::P,j+1,hj=> by
  rw [qdd,qdd,qmk (P:=P) (j:=j) (by simpa using hj)];simp only [List.getElem_cons_succ]
  omega
theorem qos (P:List (List V)):offs P P.length=P.flatten.length:=by unfold offs;rw [List.take_length]
structure LstIs (L:List V) (P:List (List V)):Prop where
 eq:∃v,v.kind=5∧L=v::P.flatten
 ends:Ends P
 parts:partsL L=P
 len:L.length≤5000
theorem qwp {v:V} {r:List V} (hr:rightPF (v::r)=true) (h5:v.kind=5):∃P,LstIs (v::r) P:=by
 obtain ⟨u,P,e,he,hn,_,⟨ks,_,hp,_⟩,hl⟩:=qcl hr
 obtain ⟨rfl,rfl⟩:=List.cons.inj e
 refine ⟨P,⟨v,h5,rfl⟩,he, ?_,hl⟩
 have hq:=qds hp []
 rw [List.append_nil,←hp.len]at hq
 unfold partsL
 show partsP v.count.toNat P.flatten=P
 rw [←hn,Int.toNat_natCast]
 exact hq
theorem LstIs.all {L:List V} {P:List (List V)} (h:LstIs L P):1+offs P P.length=L.length:=by
 obtain ⟨v,_,e⟩:=h.eq
 rw [qos,e,List.length_cons]
 omega
theorem qof:∀ {P:List (List V)},Ends P→P.length≤P.flatten.length
 | [],_=> Nat.le_refl _
 | p::P,h=> by
  have:=h.pos (p:=p) List.mem_cons_self
  have:=qof h.tail
  rw [List.flatten_cons,List.length_append,List.length_cons];omega
theorem LstIs.few {L:List V} {P:List (List V)} (h:LstIs L P):P.length≤5000:=by
 have h1:=h.all
 have h2:=h.len
 have h3:=qof h.ends
 rw [qos]at h1
 omega
theorem q2h {L x:List V} (hr:rightPF L=true) {k:Nat} {v:V} {Q:List (List V)} (hd:L.drop k=(v::Q.flatten)++x) (he:Ends Q) (hn:(Q.length:Int)=v.count) {j:Nat} (hj:j < Q.length):
  itemA L (k:Int) (j:Int)=some (k+1+offs Q j)∧cutA L ((k+1+offs Q j:Nat):Int)=named [] Q[j]:=by
 have hd1:L.drop (k+1)=Q.flatten++x:=by
  rw [←List.drop_drop,hd];rfl
 have hkl:k < L.length:=by
  have h1:=congrArg List.length hd
  simp only [List.length_drop,List.length_append,List.length_cons]at h1
  omega
 obtain ⟨y,hy⟩:=qia Q L x (k+1) hd1 j hj
 obtain ⟨r1,r2,_⟩:=qfc hy (he _ (List.getElem_mem hj))
 have hlt:k+1+offs Q j < L.length:=by
  have h0:=he.pos (List.getElem_mem hj)
  have h1:=congrArg List.length hy
  rw [List.length_drop,List.length_append]at h1
  omega
 constructor
 ·unfold itemA placeB
  have hc:countOf (L.drop (k:Int).toNat)=v.count:=by rw [Int.toNat_natCast,hd];rfl
  rw [hr,Bool.and_true,hc,if_pos ⟨decide_eq_true (by omega),by omega,by omega⟩];have:=quc Q L x (k+1) he hd1 j (Nat.le_of_lt hj)
  rw [Int.toNat_natCast,Int.toNat_natCast];show some (stepF L (k+1) j)=_
  rw [this]
 ·unfold cutA placeB
  rw [hr,Bool.and_true,if_pos (decide_eq_true (by omega)),Int.toNat_natCast,r2]
theorem qkh {d:Nat} {ks:List (List UInt8)} {P:List (List V)} (h:Parts d false ks P):∀p∈P,Js.keyOf p=[]:=by
 induction h with
 | nil=> exact fun _ h=> by cases h
 | cons h1 _ ih=>
  intro p hp;rcases List.mem_cons.1 hp with rfl | hp
  ·exact h1.own.1 rfl
  ·exact ih p hp
theorem qic {L:List V} {key:List UInt8} {k:Nat} (hg:getA L 0 key=some k) (h5:kindOf (L.drop k)=5):
  (((partsL (ofKey L key)).length:Nat):Int)=countOf (L.drop k)∧∀(j:Nat) (hj:j < (partsL (ofKey L key)).length),cutA L (plc (itemA L (k:Int) (j:Int)))=(partsL (ofKey L key))[j]:=by
 obtain ⟨hp,h1,_⟩:=qbb hg
 have hne:ofKey L key≠[]:=fun e=> by
  rw [List.drop_eq_getElem_cons hp]at h5
  have h6:L[k].kind=5:=h5
  rw [e,h6]at h1
  exact absurd h1 (by decide)
 obtain ⟨P,hP⟩:=qbn (qcv hne)
 have hR:=qfu hP hne
 obtain ⟨v,Q,e,he,hn,_,⟨ks,_,hq,_⟩,_⟩:=qcl hR
 have hk5:v.kind=5:=by
  rw [List.drop_eq_getElem_cons hp]at h5
  rw [e]at h1
  exact h1.trans h5
 have ho:isObj v=false:=decide_eq_false (by omega)
 rw [ho]at hq
 have hparts:partsL (ofKey L key)=Q:=by
  have hr:=qds hq []
  rw [List.append_nil,←hq.len]at hr
  unfold partsL;rw [e];show partsP v.count.toNat Q.flatten=Q
  rw [←hn,Int.toNat_natCast];exact hr
 have hcut:ofKey L key=named [] ((L.drop k).take (rowE L k)):=by
  unfold ofKey cutA placeB;rw [hg,hP.right,Bool.and_true];show (if decide ((0:Int)≤(k:Nat)∧((k:Nat):Int) < L.length)=true then named [] ((L.drop ((k:Nat):Int).toNat).take (rowE L ((k:Nat):Int).toNat)) else [])=_
  rw [if_pos (decide_eq_true (by omega)),Int.toNat_natCast]
 have hd:∃v2 x,L.drop k=(v2::Q.flatten)++x∧v2.count=v.count:=by
  have hsplit:=List.take_append_drop (rowE L k) (L.drop k)
  rw [e]at hcut
  cases ht:(L.drop k).take (rowE L k)with
  | nil=> rw [ht]at hcut;cases hcut
  | cons a r=>
   rw [ht]at hcut hsplit
   have hc:v::Q.flatten= {a with key:=[]}::r:=hcut
   obtain ⟨hv,hr⟩:=List.cons.inj hc
   exact ⟨a,_,by rw [hr];exact hsplit.symm,by rw [hv]⟩
 obtain ⟨v2,x,hd,hv2⟩:=hd
 rw [hparts]
 refine ⟨by rw [hd];exact hn.trans hv2.symm,fun j hj=> ?_⟩
 obtain ⟨i1,i2⟩:=q2h hP.right hd he (hn.trans hv2.symm) hj
 rw [i1]
 show cutA L ((k+1+offs Q j:Nat):Int)=_
 rw [i2]
 exact qs6 (qkh hq _ (List.getElem_mem hj))
theorem qi7:∀s:List UInt8,(∀a∈s,40≤a.toNat∧a.toNat < 92∨93≤a.toNat∧a.toNat < 127)→quoteB s=s
 | [],_=> qeh
 | a::r,h=> by
  have ha:=h a List.mem_cons_self
  have hs:scalar a.toNat=true:=qal.2 (.inl (by omega))
  have hb:bytesF a.toNat=[a]:=by
   unfold bytesF;rw [if_pos (by omega),UInt8.ofNat_toNat]
  have ho:Jt.oneF a.toNat=[a]:=by
   unfold Jt.oneF;rw [if_neg (by omega),if_neg (by omega),if_neg (by omega),if_neg (by omega),if_neg (by omega),if_neg (by omega),if_neg (by omega),if_neg (by omega),hb]
  have:=qpf hs r
  rw [hb,if_pos (by omega),ho,qi7 r fun x hx=> h x (List.mem_cons_of_mem _ hx)]at this
  exact this
theorem qfj {s:List UInt8} (h:∀a∈s,40≤a.toNat∧a.toNat < 92∨93≤a.toNat∧a.toNat < 127):quoteF s=34::(s++[34]):=by
 unfold quoteF
 rw [qi7 s h]
theorem qcq {k:List UInt8} (h:∀a∈k,40≤a.toNat∧a.toNat < 92∨93≤a.toNat∧a.toNat < 127) {v:V} (hk:v.key=k) (t:List UInt8):item true v t=(34::(k++[34]))++58::body v t:=by
 unfold item
 rw [if_pos rfl,hk,qfj h]
end Jo
end Go.Proofs.YtgmangikcfakgaaGreatDoor
namespace Go.Proofs.YtgmangikcfakgaaGreatDoor
open Go
namespace Js
open Jt
theorem q0f {l:List V} {t:List UInt8} (h:Row l t):∃v r t1,l=v::r∧One 0 false v r t1∧t=body v t1:=by
 obtain ⟨v,l1,l2,t1,t2,rfl,hk,hone,hr,ht⟩:=qbr h.2
 obtain ⟨rfl,_⟩:=qay hr rfl
 rw [if_pos rfl,List.append_nil]at ht
 rw [List.append_nil]
 exact ⟨v,l1,t1,rfl,hone,ht⟩
def placesF:Nat→List (List V)→List (Nat×List V)
 | _,[]=> []
 | k,p::r=> (k,p)::placesF (k+p.length) r
theorem qdp:∀(P:List (List V)) (k:Nat),(placesF k P).map (·.2)=P
 | [],_=> rfl
 | p::r,k=> by rw [placesF,List.map_cons,qdp r]
theorem qnn (L:List V):∀(P:List (List V)) (x:List V) (k:Nat),L.drop k=P.flatten++x→∀q∈placesF k P,∃y,L.drop q.1=q.2++y
 | [],_,_,_,q,hq=> by cases hq
 | p::r,x,k,h,q,hq=> by
  rw [List.flatten_cons,List.append_assoc]at h
  rcases List.mem_cons.1 hq with rfl | hq
  ·exact ⟨_,h⟩
  ·refine qnn L r x (k+p.length) ?_ q hq
   rw [←List.drop_drop,h,List.drop_left]
structure KidS (L x:List V) (d:Nat) (o:Bool) (All D:List (Nat×List V)) (k:Nat) (R:List (List V)):Prop where
 eq:All=D++placesF k R
 drop:L.drop k=R.flatten++x
 ones:∀p∈R,∃v2 l2 t2,p=v2::l2∧One d o v2 l2 t2
theorem KidS.start {L x:List V} {a d:Nat} {ob:Bool} {v:V} {r:List V} {t:List UInt8} (h:One d ob v r t) (hd:L.drop a=v::(r++x)):KidS L x (d+1) (isObj v) (placesF (a+1) (ownParts v r)) [] (a+1) (ownParts v r):=by
 obtain ⟨ks,h1,h2,h3,h4,_⟩:=qcp h []
 rw [List.append_nil]at h1 h4
 refine ⟨rfl, ?_,fun p hp=> ?_⟩
 ·rw [h4,←List.drop_drop,hd]
  rfl
 ·obtain ⟨a,b,c,e,o,_⟩:=qe5 h p hp
  exact ⟨a,b,c,e,o⟩
theorem KidS.count {d:Nat} {ob:Bool} {v:V} {r:List V} {t:List UInt8} (h:One d ob v r t):((ownParts v r).length:Int)=v.count∧(ownParts v r).length≤r.length:=by
 obtain ⟨ks,h1,h2,h3,h4,_⟩:=qcp h []
 rw [List.append_nil]at h1 h4
 have hp:=qe5 h
 refine ⟨by rw [h1.len];exact h2, ?_⟩
 have few:∀P:List (List V),(∀p∈P,0 < p.length)→P.length≤P.flatten.length:=fun P=> by
  induction P with
  | nil=> exact fun _=> Nat.le_refl _
  | cons p P ih=>
   intro h;have:=ih (fun q hq=> h q (List.mem_cons_of_mem _ hq))
   have:=h p List.mem_cons_self
   rw [List.length_cons,List.flatten_cons,List.length_append];omega
 have:=few (ownParts v r) (fun p hp2=> by
  obtain ⟨a,b,c,e,_⟩:=hp p hp2
  rw [e];exact Nat.succ_pos _)
 rw [h4]at this
 exact this
theorem KidS.next {L x:List V} {d:Nat} {o:Bool} {All D:List (Nat×List V)} {k:Nat} {p:List V} {R:List (List V)} (h:KidS L x d o All D k (p::R)):k < L.length∧endW (L.drop k) 1=some p.length∧KidS L x d o All (D++[(k,p)]) (k+p.length) R:=by
 obtain ⟨v2,l2,t2,e,ho⟩:=h.ones p List.mem_cons_self
 have hd:=h.drop
 rw [List.flatten_cons,List.append_assoc]at hd
 refine ⟨?_, ?_,⟨?_, ?_,fun q hq=> h.ones q (List.mem_cons_of_mem _ hq)⟩⟩
 ·have:=congrArg List.length hd
  rw [List.length_drop,e,List.length_append,List.length_cons]at this
  omega
 ·rw [hd,e,List.cons_append]
  exact qe1 ho _
 ·rw [h.eq,placesF,List.append_assoc]
  rfl
 ·rw [←List.drop_drop,hd,List.drop_left]
def ordO (o:Bool) (P:List (List V)):List (List V):=if o=true then ordF P else P
structure LeftS (L:List V) (d:Nat) (o:Bool) (S:List (Nat×List V)):Prop where
 ins:∀q∈S,∃y,L.drop q.1=q.2++y
 ones:∀q∈S,∃v2 l2 t2,q.2=v2::l2∧One d o v2 l2 t2
 keys:o=true→((S.map (·.2)).map keyOf).Nodup
theorem LeftS.start {L x:List V} {a d:Nat} {ob:Bool} {v:V} {r:List V} {t:List UInt8} (h:One d ob v r t) (hd:L.drop a=v::(r++x)):LeftS L (d+1) (isObj v) (placesF (a+1) (ownParts v r)):=by
 have k:=KidS.start h hd
 have hrow:=qdp (ownParts v r) (a+1)
 refine ⟨qnn L _ x _ k.drop,fun q hq=> ?_,fun ho=> ?_⟩
 ·refine k.ones q.2 ?_
  rw [←hrow];exact List.mem_map.2 ⟨q,hq,rfl⟩
 ·rw [hrow]
  exact (qee (f:=r.length) h (Nat.le_refl _)).2.2.2 ho
theorem LeftS.cut {L:List V} {d:Nat} {o:Bool} {S:List (Nat×List V)} (h:LeftS L d o S) (m:Nat):LeftS L d o (S.take m++S.drop (m+1)):=by
 rw [←List.eraseIdx_eq_take_drop_succ]
 have hs:=List.eraseIdx_sublist S m
 exact ⟨fun q hq=> h.ins q (hs.mem hq),fun q hq=> h.ones q (hs.mem hq),fun ho=> (h.keys ho).sublist ((hs.map _).map _)⟩
theorem LeftS.at_ {L:List V} {d:Nat} {o:Bool} {S:List (Nat×List V)} (h:LeftS L d o S) {i:Nat} (hi:i < S.length):∃hq:S[i].1 < L.length,L[S[i].1].key=keyOf S[i].2:=by
 obtain ⟨y,hy⟩:=h.ins _ (List.getElem_mem hi)
 obtain ⟨v2,l2,t2,e,_⟩:=h.ones _ (List.getElem_mem hi)
 rw [e,List.cons_append]at hy
 have hk:S[i].1 < L.length:=by
  have:=congrArg List.length hy
  rw [List.length_drop,List.length_cons]at this
  omega
 refine ⟨hk, ?_⟩
 rw [List.drop_eq_getElem_cons hk]at hy
 rw [(List.cons.inj hy).1,e]
 rfl
structure Least (o:Bool) (S:List (Nat×List V)) (m i:Nat):Prop where
 lt:m < i
 le:i≤S.length
 zero:o=false→m=0
 less:o=true→∀(j:Nat) (_:j < i) (_:j≠m) (hj:j < S.length) (hm:m < S.length),ltF (keyOf S[m].2) (keyOf S[j].2)=true
theorem Least.first {o:Bool} {S:List (Nat×List V)} (h:0 < S.length):Least o S 0 1:=
 ⟨Nat.one_pos,h,fun _=> rfl,fun _ j h1 h2=> absurd h1 (by omega)⟩
theorem q3b {S:List (Nat×List V)} (hn:((S.map (·.2)).map keyOf).Nodup) {i j:Nat} (hi:i < S.length) (hj:j < S.length) (h:i≠j):keyOf S[i].2≠keyOf S[j].2:=by
 intro e
 have hp:=List.pairwise_iff_getElem.1 hn
 have li:i < ((S.map (·.2)).map keyOf).length:=by rw [List.length_map,List.length_map];exact hi
 have lj:j < ((S.map (·.2)).map keyOf).length:=by rw [List.length_map,List.length_map];exact hj
 have gi:((S.map (·.2)).map keyOf)[i]=keyOf S[i].2:=by rw [List.getElem_map,List.getElem_map]
 have gj:((S.map (·.2)).map keyOf)[j]=keyOf S[j].2:=by rw [List.getElem_map,List.getElem_map]
 rcases Nat.lt_or_gt_of_ne h with h | h
 ·exact hp i j li lj h (by rw [gi,gj,e])
 ·exact hp j i lj li h (by rw [gi,gj,e])
theorem Least.keep {L:List V} {d:Nat} {o:Bool} {S:List (Nat×List V)} {m i:Nat} (h:Least o S m i) (hs:LeftS L d o S) (hi:i < S.length) (hm:m < S.length) (hk:o=true→ltF (keyOf S[i].2) (keyOf S[m].2)=false):Least o S m (i+1):=by
 have h0:=h.lt
 refine ⟨by omega,hi,h.zero,fun ho j h1 h2 hj hm2=> ?_⟩
 by_cases e:j=i
 ·subst e
  exact qfh _ _ (q3b (hs.keys ho) hj hm (by omega)) (hk ho)
 ·exact h.less ho j (by omega) h2 hj hm2
theorem Least.turn {o:Bool} {S:List (Nat×List V)} {m i:Nat} (h:Least o S m i) (ho:o=true) (hi:i < S.length) (hm:m < S.length) (hk:ltF (keyOf S[i].2) (keyOf S[m].2)=true):Least o S i (i+1):=by
 refine ⟨Nat.lt_succ_self _,hi,fun e=> (by rw [ho]at e;cases e),fun _ j h1 h2 hj hm2=> ?_⟩
 by_cases e:j=m
 ·subst e
  exact hk
 ·exact qc5 _ _ _ hk (h.less ho j (by omega) e hj hm)
theorem Least.pick {L:List V} {d:Nat} {o:Bool} {S:List (Nat×List V)} {m:Nat} (h:Least o S m S.length) (hs:LeftS L d o S) (hm:m < S.length):ordO o (S.map (·.2))=S[m].2::ordO o ((S.take m++S.drop (m+1)).map (·.2)):=by
 have e:S=S.take m++S[m]::S.drop (m+1):=by rw [←List.drop_eq_getElem_cons hm,List.take_append_drop]
 unfold ordO
 cases o with
 | false=>
  have hz:=h.zero rfl
  subst hz;rw [if_neg (by decide),if_neg (by decide),List.take_zero,List.nil_append];conv=> lhs;rw [e]
  rfl
 | true=>
  rw [if_pos rfl,if_pos rfl];have hn:=hs.keys rfl
  have hmap:S.map (·.2)=(S.take m).map (·.2)++S[m].2::(S.drop (m+1)).map (·.2):=by
   conv=> lhs;rw [e]
   rw [List.map_append,List.map_cons]
  rw [hmap]at hn ⊢
  rw [List.map_append];refine qze hn fun q hq=> ?_
  rw [←List.map_append]at hq
  obtain ⟨p,hp,rfl⟩:=List.mem_map.1 hq
  rw [←List.eraseIdx_eq_take_drop_succ]at hp
  obtain ⟨i,hi,hne,rfl⟩:=List.mem_eraseIdx_iff_getElem.1 hp
  exact h.less rfl i hi hne hi hm
theorem ql0 (S:List (Nat×List V)) {m:Nat} (hm:m < S.length):(S.map (·.2)).flatten.length=S[m].2.length+((S.take m++S.drop (m+1)).map (·.2)).flatten.length∧(S.take m++S.drop (m+1)).length+1=S.length:=by
 have e:S=S.take m++S[m]::S.drop (m+1):=by rw [←List.drop_eq_getElem_cons hm,List.take_append_drop]
 constructor
 ·conv=> lhs;rw [e]
  simp only [List.map_append,List.map_cons,List.flatten_append,List.flatten_cons,List.length_append]
  omega
 ·rw [List.length_append,List.length_take,List.length_drop]
  omega
structure SoS (L:List V) (f d:Nat) (o:Bool) (v:V) (n:Nat) (All:List (List V)) (out:List V) (S:List (Nat×List V)):Prop where
 rs:LeftS L d o S
 eq:∃D,out=v::(D.map (sortF f)).flatten∧D++ordO o (S.map (·.2))=All
 len:out.length+(S.map (·.2)).flatten.length=n
theorem SoS.start {L x:List V} {a d f:Nat} {ob:Bool} {v:V} {r:List V} {t:List UInt8} (h:One d ob v r t) (hd:L.drop a=v::(r++x)):SoS L f (d+1) (isObj v) v (r.length+1) (ordP v r) [v] (placesF (a+1) (ownParts v r)):=by
 refine ⟨LeftS.start h hd,⟨[],rfl, ?_⟩, ?_⟩
 ·rw [qdp]
  rfl
 ·rw [qdp]
  obtain ⟨ks,h1,h2,h3,h4,_⟩:=qcp h []
  rw [List.append_nil]at h4
  rw [h4];show 1+_=_
  omega
theorem SoS.done {L:List V} {f d n:Nat} {o:Bool} {v:V} {All:List (List V)} {out:List V} (h:SoS L f d o v n All out []):out=v::(All.map (sortF f)).flatten:=by
 obtain ⟨D,e1,e2⟩:=h.eq
 rw [e1,←e2]
 have:ordO o (([]:List (Nat×List V)).map (·.2))=[]:=by unfold ordO;split <;> rfl
 rw [this,List.append_nil]
theorem SoS.next {L:List V} {f d n:Nat} {o:Bool} {v:V} {All:List (List V)} {out:List V} {S:List (Nat×List V)} (h:SoS L f d o v n All out S) {m:Nat} (hl:Least o S m S.length) (hm:m < S.length) (hf:∀p∈All,(sortF f p).length=p.length):
  SoS L f d o v n All (out++sortF f S[m].2) (S.take m++S.drop (m+1))∧(sortF f S[m].2).length=S[m].2.length:=by
 obtain ⟨D,e1,e2⟩:=h.eq
 have hp:=hl.pick h.rs hm
 rw [hp]at e2
 have hlen:=hf S[m].2 (by rw [←e2];simp)
 refine ⟨⟨h.rs.cut m,⟨D++[S[m].2], ?_, ?_⟩, ?_⟩,hlen⟩
 ·rw [e1,List.map_append,List.flatten_append]
  simp
 ·rw [←e2]
  simp
 ·have:=(ql0 S hm).1
  have:=h.len
  rw [List.length_append,hlen];omega
end Js
end Go.Proofs.YtgmangikcfakgaaGreatDoor
namespace Go.Proofs.YtgmangikcfakgaaGreatDoor
open Go
namespace Js
open Jt
def PrS (L x:List V) (d:Nat) (o:Bool) (T:List UInt8) (i k g:Nat) (u:List UInt8):Prop:=
 ∃ks l t,Rows d o ks l t∧ks.length=g∧L.drop k=l++x∧(i=0→u=[]∧T=t)∧(0 < i→T=u++(if ks=[] then [] else 44::t))
theorem PrS.start {L x:List V} {a d:Nat} {ob:Bool} {v:V} {r:List V} {t:List UInt8} (h:One d ob v r t) (hd:L.drop a=v::(r++x)) {c:Nat} (hc:v.count=(c:Int)):PrS L x (d+1) (isObj v) t 0 (a+1) c []:=by
 obtain ⟨ks,h1,h2,_⟩:=h.kids
 refine ⟨ks,r,t,h1,by omega, ?_,fun _=> ⟨rfl,rfl⟩,fun h=> absurd h (Nat.lt_irrefl _)⟩
 rw [←List.drop_drop,hd]
 rfl
theorem PrS.done {L x:List V} {d:Nat} {o:Bool} {T:List UInt8} {i k:Nat} {u:List UInt8} (h:PrS L x d o T i k 0 u):u=T:=by
 obtain ⟨ks,l,t,h1,h2,_,h4,h5⟩:=h
 obtain rfl:=List.eq_nil_of_length_eq_zero h2
 obtain ⟨rfl,rfl⟩:=qay h1 rfl
 by_cases hi:i=0
 ·obtain ⟨e1,e2⟩:=h4 hi
  rw [e1,e2]
 ·rw [h5 (by omega),if_pos rfl,List.append_nil]
theorem qza {d:Nat} {o:Bool} {v:V} {l:List V} {t:List UInt8} (h:One d o v l t):t.length≤(body v t).length:=by
 by_cases hg:grp v=true
 ·have h2:=of_decide_eq_true hg
  unfold body;rcases h2 with h2 | h2 <;> rw [h2]
  ·show t.length≤(91::(t++[93])).length
   rw [List.length_cons,List.length_append];omega
  ·show t.length≤(123::(t++[125])).length
   rw [List.length_cons,List.length_append];omega
 ·obtain ⟨ks,h1,h2,_⟩:=h.kids
  have h3:=qe2 h.own (Bool.eq_false_iff.2 hg)
  have hk:ks=[]:=List.eq_nil_of_length_eq_zero (by omega)
  subst hk;obtain ⟨_,rfl⟩:=qay h1 rfl
  exact Nat.zero_le _
def comma (i:Nat) (u:List UInt8):List UInt8:=if i=0 then u else u++[44]
def named58 (o:Bool) (u key:List UInt8):List UInt8:=if o=true then u++quoteF key++[58] else u
theorem PrS.next {L x:List V} {d:Nat} {o:Bool} {T:List UInt8} {i k g:Nat} {u:List UInt8} (h:PrS L x d o T i k (g+1) u):∃v l1 t1 y,One d o v l1 t1∧L.drop k=v::(l1++y)∧k < L.length∧t1.length≤T.length∧endW (L.drop k) 1=some (l1.length+1)∧
  PrS L x d o T (i+1) (k+(l1.length+1)) g (named58 o (comma i u) v.key++body v t1)∧(named58 o (comma i u) v.key++body v t1).length≤T.length:=by
 obtain ⟨ks,l,t,h1,h2,h3,h4,h5⟩:=h
 match ks,h2 with
 | key::ks,h2=>
  obtain ⟨v,l1,l2,t1,t2,e,hk,ho,hr,et⟩:=qbr h1
  subst e;rw [List.cons_append,List.append_assoc]at h3
  have hkl:k < L.length:=by
   have:=congrArg List.length h3
   rw [List.length_drop,List.length_cons]at this
   omega
  have hT:T=(named58 o (comma i u) v.key++body v t1)++(if ks=[] then [] else 44::t2):=by
   have hit:∀z:List UInt8,named58 o z v.key++body v t1=z++item o v t1:=fun z=> by
    unfold named58 item;cases o <;> simp
   rw [hit];unfold comma;by_cases hi:i=0
   ·obtain ⟨e1,e2⟩:=h4 hi
    rw [if_pos hi,e1,e2,et,List.nil_append]
   ·rw [if_neg hi,h5 (by omega),if_neg (List.cons_ne_nil _ _),et]
    simp
  have hlen:(named58 o (comma i u) v.key++body v t1).length≤T.length:=by
   have:=congrArg List.length hT
   simp only [List.length_append]at this ⊢
   omega
  refine ⟨v,l1,t1,l2++x,ho,h3,hkl, ?_, ?_,⟨ks,l2,t2,hr,by rw [List.length_cons]at h2;omega, ?_,fun e=> absurd e (Nat.succ_ne_zero i),fun _=> hT⟩,hlen⟩
  ·have:=qza ho
   rw [List.length_append]at hlen
   omega
  ·rw [h3]
   exact qe1 ho _
  ·rw [←List.drop_drop,h3]
   show (v::(l1++(l2++x))).drop (l1.length+1)=_
   rw [List.drop_succ_cons,List.drop_left]
end Js
end Go.Proofs.YtgmangikcfakgaaGreatDoor
