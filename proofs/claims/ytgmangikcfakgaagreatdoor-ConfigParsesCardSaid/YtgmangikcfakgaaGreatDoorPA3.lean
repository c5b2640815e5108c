import Derived.Test.YtgmangikcfakgaaGreatDoorPA2
set_option maxRecDepth 100000
set_option maxHeartbeats 40000000
namespace Go.Proofs.YtgmangikcfakgaaGreatDoor
open Go
namespace Jo
open Jt Js
def rowE (L:List V) (a:Nat):Nat:=(endP (L.drop a) 1).getD 0
def Ends (P:List (List V)):Prop:=∀p∈P,endP p 1=some p.length
theorem Ends.pos {P:List (List V)} (h:Ends P) {p:List V} (hp:p∈P):0 < p.length:=(qbz _ _ _ (h p hp)).1
theorem Ends.tail {p:List V} {P:List (List V)} (h:Ends (p::P)):Ends P:=fun q hq=> h q (List.mem_cons_of_mem _ hq)
theorem qfc {L:List V} {a:Nat} {p x:List V} (hd:L.drop a=p++x) (he:endP p 1=some p.length):rowE L a=p.length∧(L.drop a).take (rowE L a)=p∧endP (L.drop a) 1=some p.length:=by
 have h1:endP (L.drop a) 1=some p.length:=by rw [hd];exact qhk _ _ _ _ he
 have h2:rowE L a=p.length:=by unfold rowE;rw [h1];rfl
 refine ⟨h2, ?_,h1⟩
 rw [h2,hd,List.take_left]
def findF (L:List V) (key:List UInt8) (p:Nat):Nat→Option Nat
 | 0=> none
 | n+1=> if keyOf (L.drop p)=key then some p else findF L key (p+rowE L p) n
def stepF (L:List V) (p:Nat):Nat→Nat
 | 0=> p
 | k+1=> stepF L (p+rowE L p) k
theorem qmw (L:List V):∀(k p:Nat),stepF L p (k+1)=stepF L p k+rowE L (stepF L p k)
 | 0,_=> rfl
 | k+1,p=> by
  rw [stepF,qmw L k];rfl
def offs (P:List (List V)) (j:Nat):Nat:=(P.take j).flatten.length
theorem qdd (p:List V) (P:List (List V)) (j:Nat):offs (p::P) (j+1)=p.length+offs P j:=by
 unfold offs
 rw [List.take_succ_cons,List.flatten_cons,List.length_append]
theorem qnb (P:List (List V)):offs P 0=0:=rfl
theorem qij {L:List V} {q:Nat} {p x:List V} (hd:L.drop q=p++x):L.drop (q+p.length)=x:=by
 rw [←List.drop_drop,hd,List.drop_left]
theorem quc:∀(P:List (List V)) (L x:List V) (q:Nat),Ends P→L.drop q=P.flatten++x→∀j,j≤P.length→stepF L q j=q+offs P j:=by
 intro P
 induction P with
 | nil=>
  intro L x q _ _ j hj;obtain rfl:j=0:=by simpa using hj
  rfl
 | cons p P ih=>
  intro L x q he hd j hj;cases j with
  | zero=> rfl
  | succ j=>
   rw [List.flatten_cons,List.append_assoc]at hd
   have hr:=(qfc hd (he p List.mem_cons_self)).1
   rw [stepF,hr,ih L x _ he.tail (qij hd) j (by simpa using hj),qdd,Nat.add_assoc]
theorem qia:∀(P:List (List V)) (L x:List V) (q:Nat),L.drop q=P.flatten++x→∀j (hj:j < P.length),∃y,L.drop (q+offs P j)=P[j]++y:=by
 intro P
 induction P with
 | nil=> exact fun L x q _ j hj=> absurd hj (Nat.not_lt_zero _)
 | cons p P ih=>
  intro L x q hd j hj;rw [List.flatten_cons,List.append_assoc]at hd
  cases j with
  | zero=> exact ⟨_,hd⟩
  | succ j=>
   obtain ⟨y,hy⟩:=ih L x _ (qij hd) j (by simpa using hj)
   refine ⟨y, ?_⟩
   rw [qdd,←Nat.add_assoc];exact hy
theorem q2p {p x:List V} (h:0 < p.length):keyOf (p++x)=keyOf p:=by
 match p,h with
 | v::r,_=> rfl
def idxF (key:List UInt8):List (List V)→Option Nat
 | []=> none
 | p::P=> if keyOf p=key then some 0 else (idxF key P).map (·+1)
theorem qty:∀(P:List (List V)) (L x:List V) (q:Nat) (key:List UInt8),Ends P→L.drop q=P.flatten++x→findF L key q P.length=(idxF key P).map fun j=> q+offs P j:=by
 intro P
 induction P with
 | nil=> exact fun L x q key _ _=> rfl
 | cons p P ih=>
  intro L x q key he hd;rw [List.flatten_cons,List.append_assoc]at hd
  have hr:=(qfc hd (he p List.mem_cons_self)).1
  rw [List.length_cons,findF,idxF,hd,q2p (he.pos List.mem_cons_self)];split
  ·rfl
  ·rw [hr,ih L x _ key he.tail (qij hd),Option.map_map]
   congr 1
   funext j
   simp only [Function.comp]
   rw [qdd,Nat.add_assoc]
theorem qcu:∀ {P:List (List V)} {key:List UInt8} {j:Nat},idxF key P=some j→∃hj:j < P.length,keyOf P[j]=key∧∀i (hi:i < j),keyOf P[i]≠key:=by
 intro P
 induction P with
 | nil=> intro key j h;cases h
 | cons p P ih=>
  intro key j h;rw [idxF]at h
  split at h
  next hk=>
   cases h
   exact ⟨Nat.succ_pos _,hk,fun i hi=> absurd hi (Nat.not_lt_zero _)⟩
  next hk=>
   obtain ⟨i,hi,rfl⟩:=Option.map_eq_some_iff.1 h
   obtain ⟨h1,h2,h3⟩:=ih hi
   refine ⟨Nat.succ_lt_succ h1,h2,fun m hm=> ?_⟩
   cases m with
   | zero=> exact hk
   | succ m=> exact h3 m (by omega)
theorem qdy:∀ {P:List (List V)} {key:List UInt8},idxF key P=none↔key∉P.map keyOf:=by
 intro P
 induction P with
 | nil=> intro key;exact ⟨fun _ h=> (by cases h),fun _=> rfl⟩
 | cons p P ih=>
  intro key;rw [idxF,List.map_cons,List.mem_cons];split
  next hk=> exact ⟨fun h=> (by cases h),fun h=> absurd (Or.inl hk.symm) h⟩
  next hk=>
   rw [Option.map_eq_none_iff,ih];exact ⟨fun h h2=> h2.elim (fun e=> hk e.symm) h,fun h h2=> h (.inr h2)⟩
def named (key:List UInt8):List V→List V
 | []=> []
 | v::r=> {v with key:=key}::r
theorem qbs (key:List UInt8) (l:List V):(named key l).length=l.length:=by cases l <;> rfl
theorem qne (key:List UInt8) (l:List V) (w:Nat):endP (named key l) w=endP l w:=by
 match l,w with
 | [],_=> rfl
 | v::r,0=> rfl
 | v::r,w+1=> rfl
theorem qs6 {l:List V} {key:List UInt8} (h:keyOf l=key):named key l=l:=by
 subst h
 cases l <;> rfl
def placeB (L:List V) (a:Int):Bool:=decide (0≤a∧a < L.length) && rightPF L
def kindOf:List V→Int
 | []=> -1
 | v::_=> v.kind
def countOf:List V→Int
 | []=> 0
 | v::_=> v.count
def getA (L:List V) (a:Int) (key:List UInt8):Option Nat:=if placeB L a=true∧kindOf (L.drop a.toNat)=6 then findF L key (a.toNat+1) (countOf (L.drop a.toNat)).toNat else none
def itemA (L:List V) (a k:Int):Option Nat:=if placeB L a=true∧0≤k∧k < countOf (L.drop a.toNat) then some (stepF L (a.toNat+1) k.toNat) else none
def cutA (L:List V) (a:Int):List V:=if placeB L a=true then named [] ((L.drop a.toNat).take (rowE L a.toNat)) else []
def plc:Option Nat→Int
 | some p=> (p:Int)
 | none=> -1
def bump (c:Int):List V→List V
 | []=> []
 | v::r=> {v with count:=v.count+c}::r
def isO (L:List V):Bool:=rightPF L && decide (kindOf L=6)
def fineF (L:List V):List V:=if rightPF L=true then L else []
def setF (L:List V) (key:List UInt8) (M:List V):List V:=match getA L 0 key with
 | some p=> L.take p++(named key M++L.drop (p+rowE L p))
 | none=> bump 1 L++named key M
def setA (L:List V) (key:List UInt8) (M:List V):List V:=if isO L=true∧rightPF M=true then fineF (setF L key M) else []
def dropA (L:List V) (key:List UInt8):List V:=if isO L=true then (match getA L 0 key with
 | some p=> bump (-1) (L.take p++L.drop (p+rowE L p))
 | none=> L) else []
def listF (P:List (List V)):List V:=⟨5,[],[],P.length⟩::P.flatten
def objF (ks:List (List UInt8)) (P:List (List V)):List V:=⟨6,[],[],P.length⟩::(List.zipWith named ks P).flatten
def listA (P:List (List V)):List V:=if P.all rightPF=true then fineF (listF P) else []
def objA (ks:List (List UInt8)) (P:List (List V)):List V:=if P.all rightPF=true∧ks.length=P.length then fineF (objF ks P) else []
theorem qfz {L:List V} (h:rightPF L=true) {a:Nat} (ha:a < L.length):∃(v:V) (P:List (List V)) (x:List V),L.drop a=v::(P.flatten++x)∧Ends P∧(P.length:Int)=v.count∧(∃d o ks,Own v o∧Parts d (isObj v) ks P∧(isObj v=true→ks.Nodup))∧rowE L a=1+P.flatten.length∧endP (L.drop a) 1=some (rowE L a)∧endW (L.drop a) 1=some (rowE L a):=by
 obtain ⟨t,hl,hr⟩:=(qa4 L).1 h
 obtain ⟨d,o,v,l1,t1,x,e,hone⟩:=qr5 hr a ha
 obtain ⟨ks,h1,h2,h3⟩:=hone.kids
 obtain ⟨P,hP,hparts,_⟩:=qcd _ _ _ h1
 have ends:∀ {d:Nat} {o:Bool} {ks:List (List UInt8)} {P:List (List V)},Parts d o ks P→Ends P:=fun h=> by
  induction h with
  | nil=> exact fun _ hp=> by cases hp
  | @cons v l t ks P h r ih=>
   intro p hp;rcases List.mem_cons.1 hp with rfl | hp
   ·have:=qcr h []
    rw [List.append_nil]at this
    exact this
   ·exact ih p hp
 have hw:=qe1 hone x
 have hp:=qcr hone x
 rw [←e]at hw hp
 have hrow:rowE L a=l1.length+1:=by unfold rowE;rw [hp];rfl
 refine ⟨v,P,x,by rw [hP];exact e,ends hparts,by rw [hparts.len];exact h2,⟨_,o,ks,hone.own,hparts,h3⟩,by rw [hrow,hP];omega,by rw [hp,hrow],by rw [hw,hrow]⟩
theorem qcl {L:List V} (h:rightPF L=true):∃(v:V) (P:List (List V)),L=v::P.flatten∧Ends P∧(P.length:Int)=v.count∧v.key=[]∧(∃ks,Own v false∧Parts 1 (isObj v) ks P∧(isObj v=true→ks.Nodup))∧L.length≤5000:=by
 obtain ⟨t,hl,hr⟩:=(qa4 L).1 h
 obtain ⟨v,l1,l2,t1,t2,e,hk,hone,hr2,_⟩:=qbr hr
 obtain ⟨rfl,_⟩:=qay hr2 rfl
 obtain ⟨ks,h1,h2,h3⟩:=hone.kids
 obtain ⟨P,hP,hparts,_⟩:=qcd _ _ _ h1
 have ends:∀ {d:Nat} {o:Bool} {ks:List (List UInt8)} {P:List (List V)},Parts d o ks P→Ends P:=fun h=> by
  induction h with
  | nil=> exact fun _ hp=> by cases hp
  | @cons v l t ks P h r ih=>
   intro p hp;rcases List.mem_cons.1 hp with rfl | hp
   ·have:=qcr h []
    rw [List.append_nil]at this
    exact this
   ·exact ih p hp
 refine ⟨v,P,by rw [e,hP,List.append_nil],ends hparts,by rw [hparts.len];exact h2,hk,⟨ks,hone.own,hparts,h3⟩,hl⟩
theorem qbt {v:V} {P:List (List V)} {ks:List (List UInt8)} (ho:Own v false) (hp:Parts 1 (isObj v) ks P) (hn:(P.length:Int)=v.count) (hu:isObj v=true→ks.Nodup) (hl:(v::P.flatten).length≤5000):rightPF (v::P.flatten)=true:=by
 obtain ⟨t,ht⟩:=hp.rows
 have h1:One 0 false v P.flatten t:=⟨ho,by decide,ks,ht,by rw [←hp.len];exact hn,hu⟩
 have:=h1.rows
 rw [ho.1 rfl]at this
 exact (qa4 _).2 ⟨_,hl,this⟩
end Jo
end Go.Proofs.YtgmangikcfakgaaGreatDoor
namespace Go.Proofs.YtgmangikcfakgaaGreatDoor
open Go
namespace Jo
open Jt Js
structure ObjIs (L:List V) (P:List (List V)):Prop where
 eq:L=⟨6,[],[],P.length⟩::P.flatten
 ends:Ends P
 right:rightPF L=true
 parts:∃ks,Parts 1 true ks P
 nodup:(P.map keyOf).Nodup
theorem qd6:∀(P Q:List (List V)),Ends P→Ends Q→P.length=Q.length→P.flatten=Q.flatten→P=Q:=by
 intro P
 induction P with
 | nil=>
  intro Q _ _ hl _;exact (List.eq_nil_of_length_eq_zero hl.symm).symm
 | cons p P ih=>
  intro Q hP hQ hl he;match Q,hl with
  | q::Q,hl=>
   rw [List.flatten_cons,List.flatten_cons]at he
   have h1:=(qhk _ _ _ P.flatten (hP p List.mem_cons_self))
   have h2:=(qhk _ _ _ Q.flatten (hQ q List.mem_cons_self))
   rw [he,h2]at h1
   have hlen:q.length=p.length:=Option.some.inj h1
   obtain ⟨rfl,h3⟩:=List.append_inj he hlen.symm
   rw [ih Q hP.tail hQ.tail (by simpa using hl) h3]
theorem q2l {v:V} {o:Bool} (h:Own v o) (hk:v.kind=6):v.text=[]:=by
 obtain ⟨_,_,h | h | h | h⟩:=h
 ·omega
 ·omega
 ·omega
 ·exact h.2.1
theorem qbn {L:List V} (h:isO L=true):∃P,ObjIs L P:=by
 unfold isO at h
 rw [Bool.and_eq_true,decide_eq_true_eq]at h
 obtain ⟨v,P,e,he,hn,hk,⟨ks,ho,hp,hu⟩,hl⟩:=qcl h.1
 have h6:v.kind=6:=by
  have:=h.2
  rw [e]at this
  exact this
 have hobj:isObj v=true:=decide_eq_true h6
 rw [hobj]at hp hu
 refine ⟨P, ?_,he,h.1,⟨ks,hp⟩,by rw [qcw hp];exact hu rfl⟩
 rw [e]
 obtain ⟨k,key,t,n⟩:=v
 dsimp only at*
 have ht:t=[]:=q2l ho h6
 rw [h6,hk,ht,hn]
theorem ObjIs.isO {L:List V} {P:List (List V)} (h:ObjIs L P):isO L=true:=by
 unfold Jo.isO
 rw [h.right,Bool.true_and,decide_eq_true_eq,h.eq]
 rfl
theorem ObjIs.of {P:List (List V)} {n:Nat} (hn:n=P.length) (hr:rightPF (⟨6,[],[],n⟩::P.flatten)=true) (he:Ends P):ObjIs (⟨6,[],[],n⟩::P.flatten) P:=by
 subst hn
 obtain ⟨Q,hQ⟩:=qbn (L:=⟨6,[],[],P.length⟩::P.flatten) (by unfold Jo.isO;rw [hr];rfl)
 have e:=hQ.eq
 simp only [List.cons.injEq,V.mk.injEq,true_and]at e
 have:=qd6 P Q he hQ.ends (by omega) e.2
 subst this
 exact hQ
theorem ObjIs.get {L:List V} {P:List (List V)} (h:ObjIs L P) (key:List UInt8):getA L 0 key=(idxF key P).map fun j=> 1+offs P j:=by
 have hp:placeB L 0=true:=by
  unfold placeB;rw [h.right,Bool.and_true,decide_eq_true_eq,h.eq,List.length_cons];omega
 have hd:L.drop 1=P.flatten++[]:=by rw [h.eq,List.append_nil];rfl
 unfold getA
 rw [if_pos ⟨hp,by rw [h.eq];rfl⟩]
 have hc:(countOf (L.drop (0:Int).toNat)).toNat=P.length:=by rw [h.eq];rfl
 rw [hc]
 exact qty P L [] 1 key h.ends hd
theorem ObjIs.at_ {L:List V} {P:List (List V)} (h:ObjIs L P) {j:Nat} (hj:j < P.length):1+offs P j < L.length∧rowE L (1+offs P j)=P[j].length∧cutA L ((1+offs P j:Nat):Int)=named [] P[j]:=by
 have hd:L.drop 1=P.flatten++[]:=by rw [h.eq,List.append_nil];rfl
 obtain ⟨y,hy⟩:=qia P L [] 1 hd j hj
 obtain ⟨r1,r2,_⟩:=qfc hy (h.ends _ (List.getElem_mem hj))
 have hlt:1+offs P j < L.length:=by
  have h0:=h.ends.pos (List.getElem_mem hj)
  have h1:=congrArg List.length hy
  rw [List.length_drop,List.length_append]at h1
  omega
 refine ⟨hlt,r1, ?_⟩
 unfold cutA placeB
 rw [h.right,Bool.and_true,if_pos (decide_eq_true (by omega)),Int.toNat_natCast,r2]
def look (P:List (List V)) (key:List UInt8):List V:=match idxF key P with
 | some j=> named [] (P.getD j [])
 | none=> []
theorem ObjIs.look {L:List V} {P:List (List V)} (h:ObjIs L P) (key:List UInt8):cutA L (plc (getA L 0 key))=look P key:=by
 rw [h.get,Jo.look]
 cases hi:idxF key P with
 | none=> rfl
 | some j=>
  obtain ⟨hj,_,_⟩:=qcu hi
  show cutA L ((1+offs P j:Nat):Int)=named [] (P.getD j [])
  rw [(h.at_ hj).2.2,List.getD_eq_getElem?_getD,List.getElem?_eq_getElem hj,Option.getD_some]
theorem qyl (P:List (List V)) {j:Nat} (hj:j < P.length) (x:List V) (v:V):(v::P.flatten).take (1+offs P j)++(x++(v::P.flatten).drop (1+offs P j+P[j].length))=v::(P.set j x).flatten:=by
 have e1:P.flatten=(P.take j).flatten++(P[j]++(P.drop (j+1)).flatten):=by
  conv=> lhs;rw [←List.take_append_drop j P,List.flatten_append,List.drop_eq_getElem_cons hj,List.flatten_cons]
 have e2:(P.set j x).flatten=(P.take j).flatten++(x++(P.drop (j+1)).flatten):=by
  rw [List.set_eq_take_append_cons_drop,if_pos hj,List.flatten_append,List.flatten_cons]
 rw [e2,e1,Nat.add_comm 1,List.take_succ_cons,show offs P j+1+P[j].length=(offs P j+P[j].length)+1 by omega,List.drop_succ_cons]
 unfold offs
 rw [List.take_left,←List.drop_drop,List.drop_left,List.drop_left,List.cons_append]
theorem qus (P:List (List V)) {j:Nat} (hj:j < P.length) (v:V):(v::P.flatten).take (1+offs P j)++(v::P.flatten).drop (1+offs P j+P[j].length)=v::(P.eraseIdx j).flatten:=by
 have e1:P.flatten=(P.take j).flatten++(P[j]++(P.drop (j+1)).flatten):=by
  conv=> lhs;rw [←List.take_append_drop j P,List.flatten_append,List.drop_eq_getElem_cons hj,List.flatten_cons]
 have e2:(P.eraseIdx j).flatten=(P.take j).flatten++(P.drop (j+1)).flatten:=by
  rw [List.eraseIdx_eq_take_drop_succ,List.flatten_append]
 rw [e2,e1,Nat.add_comm 1,List.take_succ_cons,show offs P j+1+P[j].length=(offs P j+P[j].length)+1 by omega,List.drop_succ_cons]
 unfold offs
 rw [List.take_left,←List.drop_drop,List.drop_left,List.drop_left,List.cons_append]
def setP (P:List (List V)) (x:List V):Option Nat→List (List V)
 | some j=> P.set j x
 | none=> P++[x]
theorem ObjIs.set {L:List V} {P:List (List V)} (h:ObjIs L P) (key:List UInt8) (M:List V):setF L key M=⟨6,[],[],(setP P (named key M) (idxF key P)).length⟩::(setP P (named key M) (idxF key P)).flatten:=by
 unfold setF
 rw [h.get]
 cases hi:idxF key P with
 | none=>
  show bump 1 L++named key M=_
  rw [h.eq];unfold setP bump;rw [List.length_append,List.flatten_append];simp
 | some j=>
  obtain ⟨hj,_,_⟩:=qcu hi
  show L.take (1+offs P j)++(named key M++L.drop (1+offs P j+rowE L (1+offs P j)))=_
  rw [(h.at_ hj).2.1];unfold setP;rw [List.length_set,h.eq];exact qyl P hj _ _
theorem qbo {M:List V} (h:rightPF M=true):endP M 1=some M.length∧0 < M.length∧keyOf M=[]:=by
 unfold rightPF at h
 rw [Bool.and_eq_true,Bool.and_eq_true,Bool.and_eq_true,decide_eq_true_iff,decide_eq_true_iff,qcs]at h
 exact ⟨h.1.1.2,(qbz _ _ _ h.1.1.2).1,h.1.2⟩
theorem Ends.setP {P:List (List V)} (h:Ends P) {x:List V} (hx:endP x 1=some x.length) (i:Option Nat):Ends (setP P x i):=by
 intro p hp
 cases i with
 | none=>
  rcases List.mem_append.1 hp with hp | hp
  ·exact h p hp
  ·rw [List.mem_singleton.1 hp]
   exact hx
 | some j=>
  rcases List.mem_or_eq_of_mem_set hp with hp | rfl
  ·exact h p hp
  ·exact hx
theorem quu {M:List V} (h:rightPF M=true) (key:List UInt8):endP (named key M) 1=some (named key M).length:=by
 rw [qne,qbs]
 exact (qbo h).1
theorem ObjIs.setIs {L:List V} {P:List (List V)} (h:ObjIs L P) {key:List UInt8} {M:List V} (hM:rightPF M=true) (hr:rightPF (setF L key M)=true):ObjIs (setF L key M) (setP P (named key M) (idxF key P)):=by
 have e:=h.set key M
 rw [e]at hr ⊢
 exact ObjIs.of rfl hr (h.ends.setP (quu hM key) _)
theorem ObjIs.drop {L:List V} {P:List (List V)} (h:ObjIs L P) {key:List UInt8} {j:Nat} (hi:idxF key P=some j):dropA L key=⟨6,[],[],(P.eraseIdx j).length⟩::(P.eraseIdx j).flatten:=by
 obtain ⟨hj,_,_⟩:=qcu hi
 unfold dropA
 rw [if_pos h.isO,h.get,hi]
 show bump (-1) (L.take (1+offs P j)++L.drop (1+offs P j+rowE L (1+offs P j)))=_
 rw [(h.at_ hj).2.1]
 have:=qus P hj ⟨6,[],[],P.length⟩
 rw [←h.eq]at this
 rw [this,List.length_eraseIdx_of_lt hj]
 unfold bump
 have e:((P.length:Int)+ -1)=((P.length - 1:Nat):Int):=by omega
 dsimp only
 rw [e]
theorem ObjIs.drop0 {L:List V} {P:List (List V)} (h:ObjIs L P) {key:List UInt8} (hi:idxF key P=none):dropA L key=L:=by
 unfold dropA
 rw [if_pos h.isO,h.get,hi]
 rfl
theorem qrm {d:Nat} {o:Bool}:∀ {P:List (List V)} {ks:List (List UInt8)},Parts d o ks P→∀j,∃ks2,Parts d o ks2 (P.eraseIdx j)∧ks2.Sublist ks:=by
 intro P ks h
 induction h with
 | nil=> exact fun j=> ⟨[], .nil, .slnil⟩
 | @cons v l t ks P h r ih=>
  intro j;cases j with
  | zero=> exact ⟨ks,r,List.sublist_cons_self _ _⟩
  | succ j=>
   obtain ⟨k2,h1,h2⟩:=ih j
   exact ⟨_, .cons h h1,h2.cons_cons _⟩
theorem qaw:validF []=true:=qa8
theorem qbw (n:Nat):Own ⟨6,[],[],(n:Int)⟩ false:=⟨fun _=> rfl,qaw, .inr (.inr (.inr ⟨.inr rfl,rfl,by show (0:Int)≤(n:Int);omega⟩))⟩
theorem q0x (n:Nat):Own ⟨5,[],[],(n:Int)⟩ false:=⟨fun _=> rfl,qaw, .inr (.inr (.inr ⟨.inl rfl,rfl,by show (0:Int)≤(n:Int);omega⟩))⟩
theorem qbc {L:List V} (h:rightPF L=true):L.length≤5000:=by
 obtain ⟨t,h1,_⟩:=(qa4 L).1 h
 exact h1
theorem q2c {P Q:List (List V)} (h:P.Sublist Q):P.flatten.length≤Q.flatten.length:=by
 induction h with
 | slnil=> exact Nat.le_refl _
 | cons a _ ih=> rw [List.flatten_cons,List.length_append];omega
 | cons_cons a _ ih=> rw [List.flatten_cons,List.flatten_cons,List.length_append,List.length_append];omega
theorem ObjIs.dropIs {L:List V} {P:List (List V)} (h:ObjIs L P) {key:List UInt8} {j:Nat} (hi:idxF key P=some j):ObjIs (dropA L key) (P.eraseIdx j):=by
 obtain ⟨hj,_,_⟩:=qcu hi
 have e:=h.drop hi
 have hends:Ends (P.eraseIdx j):=fun p hp=> h.ends p ((List.eraseIdx_sublist P j).mem hp)
 obtain ⟨ks,hp⟩:=h.parts
 obtain ⟨ks2,h1,h2⟩:=qrm hp j
 have hnd:ks.Nodup:=by rw [←qcw hp];exact h.nodup
 have hlen:(P.eraseIdx j).flatten.length≤P.flatten.length:=q2c (List.eraseIdx_sublist P j)
 have hL:=qbc h.right
 rw [h.eq,List.length_cons]at hL
 rw [e]
 exact ObjIs.of rfl (qbt (qbw _) h1 rfl (fun _=> hnd.sublist h2) (by rw [List.length_cons];omega)) hends
theorem qa2 (p:List V) (P:List (List V)) (key:List UInt8):look (p::P) key=if keyOf p=key then named [] p else look P key:=by
 unfold look
 rw [idxF]
 by_cases hk:keyOf p=key
 ·rw [if_pos hk,if_pos hk]
  rfl
 ·rw [if_neg hk,if_neg hk]
  cases idxF key P with
  | none=> rfl
  | some i=> rfl
end Jo
end Go.Proofs.YtgmangikcfakgaaGreatDoor
namespace Go.Proofs.YtgmangikcfakgaaGreatDoor
open Go
namespace Jo
open Jt Js
theorem qjj {v:V} {P:List (List V)} (hr:rightPF (v::P.flatten)=true) (he:Ends P) (hn:(P.length:Int)=v.count):∃ks,Parts 1 (isObj v) ks P∧(isObj v=true→ks.Nodup):=by
 obtain ⟨v2,Q,e,hQ,hn2,_,⟨ks,_,hp,hu⟩,_⟩:=qcl hr
 obtain ⟨rfl,e2⟩:=List.cons.inj e
 obtain rfl:=qd6 P Q he hQ (by omega) e2
 exact ⟨ks,hp,hu⟩
theorem qoy {P:List (List V)} (h:P.all rightPF=true):Ends P:=fun p hp=> (qbo (List.all_eq_true.1 h p hp)).1
theorem qpc:∀ {ks:List (List UInt8)} {P:List (List V)},Ends P→Ends (List.zipWith named ks P)
 | [],_,_=> by rw [List.zipWith_nil_left];exact fun _ h=> by cases h
 | _::_,[],_=> fun _ h=> by cases h
 | k::ks,p::P,h=> by
  intro q hq;rw [List.zipWith_cons_cons]at hq
  rcases List.mem_cons.1 hq with rfl | hq
  ·rw [qne,qbs]
   exact h p List.mem_cons_self
  ·exact qpc h.tail q hq
theorem qgr:∀ {ks:List (List UInt8)} {P:List (List V)},ks.length=P.length→(List.zipWith named ks P).flatten.length=P.flatten.length
 | [],[],_=> rfl
 | k::ks,p::P,h=> by
  rw [List.zipWith_cons_cons,List.flatten_cons,List.flatten_cons,List.length_append,List.length_append,qbs,qgr (by simpa using h)]
theorem qjf {d:Nat}:∀(P:List (List V)) (ks ks':List (List UInt8)),Parts d true ks' (List.zipWith named ks P)→ks.length=P.length→(∀p∈P,keyOf p=[])→∃ks0,Parts d false ks0 P
 | [],[],_,_,_,_=> ⟨[], .nil⟩
 | p::P,k::ks,ks',h,hl,hk=> by
  rw [List.zipWith_cons_cons]at h
  generalize hq:named k p::List.zipWith named ks P=Q at h;cases h with
  | nil=> cases hq
  | @cons v l t ks2 Q2 h r=>
   obtain ⟨h1,h2⟩:=List.cons.inj hq
   subst h2;obtain ⟨ks0,ih⟩:=qjf P ks ks2 r (by simpa using hl) (fun q hq=> hk q (List.mem_cons_of_mem _ hq))
   match p,h1,hk with
   | v0::l0,h1,hk=>
    obtain ⟨rfl,rfl⟩:=List.cons.inj h1
    have hv0:v0.key=[]:=hk _ List.mem_cons_self
    obtain ⟨o1,o2,ks3,o3,o4,o5⟩:=h
    refine ⟨_, .cons (t:=t) ⟨⟨fun _=> hv0,by rw [hv0];exact qaw,o1.2.2⟩,o2,ks3,o3,o4,o5⟩ ih⟩
theorem qx1 {P:List (List V)} (h:P.all rightPF=true):∀p∈P,keyOf p=[]:=fun p hp=> (qbo (List.all_eq_true.1 h p hp)).2.2
theorem q1x {ks:List (List UInt8)} {P:List (List V)} (h:ks.length=P.length):(List.zipWith named ks P).length=P.length:=by
 rw [List.length_zipWith]
 omega
theorem qz0 {P:List (List V)} {ks:List (List UInt8)} (hP:P.all rightPF=true) (hl:ks.length=P.length) (h:rightPF (objF ks P)=true):rightPF (listF P)=true:=by
 have hz:(List.zipWith named ks P).length=P.length:=q1x hl
 obtain ⟨ks',hp,_⟩:=qjj h (qpc (qoy hP)) (by rw [hz])
 obtain ⟨ks0,h0⟩:=qjf P ks ks' hp hl (qx1 hP)
 have hs:=qbc h
 have hf:=qgr hl
 unfold objF at hs
 rw [List.length_cons,hf]at hs
 exact qbt (q0x _) h0 rfl (fun e=> by cases e) (by rw [List.length_cons];exact hs)
theorem qwh {P:List (List V)} {ks:List (List UInt8)} (h:listA P=[]):objA ks P=[]:=by
 unfold objA
 split
 next hc=>
  unfold listA at h;rw [if_pos hc.1]at h
  unfold fineF at h ⊢
  split
  next hr=>
   rw [if_pos (qz0 hc.1 hc.2 hr)]at h
   cases h
  next hr=> rfl
 next hc=> rfl
end Jo
end Go.Proofs.YtgmangikcfakgaaGreatDoor
