import Derived.Test.YtgmangikcfakgaaGreatDoorPA0
set_option maxRecDepth 100000
set_option maxHeartbeats 40000000
namespace Go.Proofs.YtgmangikcfakgaaGreatDoor
open Go
namespace Js
open Jt
structure V where
 kind:Int
 key:List UInt8
 text:List UInt8
 count:Int
deriving instance DecidableEq for V
def isObj (v:V):Bool:=decide (v.kind=6)
def Own (v:V) (o:Bool):Prop:=
 (o=false→v.key=[])∧validF v.key=true∧
 ((v.kind=0∨v.kind=1∨v.kind=2)∧v.text=[]∧v.count=0∨
  v.kind=3∧v.text≠[]∧numF v.text=v.text.length∧v.count=0∨
  v.kind=4∧validF v.text=true∧v.count=0∨
  (v.kind=5∨v.kind=6)∧v.text=[]∧0≤v.count)
def body (v:V) (t:List UInt8):List UInt8:=
 if v.kind=0 then [110,117,108,108] else if v.kind=1 then [116,114,117,101] else if v.kind=2 then [102,97,108,115,101]
 else if v.kind=3 then v.text else if v.kind=4 then quoteF v.text
 else if v.kind=5 then 91::(t++[93]) else 123::(t++[125])
def item (o:Bool) (v:V) (t:List UInt8):List UInt8:=if o=true then quoteF v.key++58::body v t else body v t
inductive Rows:Nat→Bool→List (List UInt8)→List V→List UInt8→Prop
 | nil (d:Nat) (o:Bool):Rows d o [] [] []
 | one {d:Nat} {o:Bool} {v:V} {ks:List (List UInt8)} {l:List V} {t:List UInt8} (hv:Own v o) (hd:d < 50) (hk:Rows (d+1) (isObj v) ks l t) (hn:(ks.length:Int)=v.count) (hu:isObj v=true→ks.Nodup):Rows d o [v.key] (v::l) (item o v t)
 | more {d:Nat} {o:Bool} {v:V} {ks:List (List UInt8)} {l:List V} {t:List UInt8} {k2:List UInt8} {ks2:List (List UInt8)} {l2:List V} {t2:List UInt8} (hv:Own v o) (hd:d < 50) (hk:Rows (d+1) (isObj v) ks l t) (hn:(ks.length:Int)=v.count) (hu:isObj v=true→ks.Nodup)
  (hr:Rows d o (k2::ks2) l2 t2):Rows d o (v.key::k2::ks2) (v::(l++l2)) (item o v t++44::t2)
def Row (l:List V) (t:List UInt8):Prop:=l.length≤5000∧Rows 0 false [[]] l t
def skip:List UInt8→List UInt8
 | []=> []
 | a::r=> if a=32∨a=9∨a=10∨a=13 then skip r else a::r
inductive Res where
 | ok (n:Nat) (l:List V) (r:List UInt8)
 | err (e:Nat)
def Res.bind (x:Res) (f:Nat→List V→List UInt8→Res):Res:=match x with
 | .ok n l r=> f n l r
 | .err e=> .err e
theorem Res.bind_ok (n:Nat) (l:List V) (r:List UInt8) (f:Nat→List V→List UInt8→Res):(Res.ok n l r).bind f=f n l r:=rfl
def wordF (w s:List UInt8) (v:V):Res:=if w.isPrefixOf s=true then .ok 1 [v] (s.drop w.length) else .err 3
def stringF (key s:List UInt8):Res:=match unqF s with
 | some p=> .ok 1 [⟨4,key,p.1,0⟩] (s.drop p.2)
 | none=> .err 3
def numberF (key s:List UInt8):Res:=if numF s=0 then .err 3 else .ok 1 [⟨3,key,s.take (numF s),0⟩] (s.drop (numF s))
def groupF (K:List UInt8→Res) (kind:Int) (key:List UInt8) (c:UInt8) (s:List UInt8):Res:=match skip s with
 | []=> (K s).bind fun n l r=> .ok 1 (⟨kind,key,[],n⟩::l) r
 | a::r=> if a=c then .ok 1 [⟨kind,key,[],0⟩] r else (K s).bind fun n l r=> .ok 1 (⟨kind,key,[],n⟩::l) r
def starts (a:UInt8):Bool:=decide (a=110∨a=116∨a=102∨a=34∨a=91∨a=123∨a=45) || isD a
def valW (K:Bool→List UInt8→Res) (key:List UInt8) (d c:Nat) (s:List UInt8):Res:=match skip s with
 | []=> .err 3
 | a::r=>
  if starts a=false then .err 3
  else if 50≤d∨5000≤c then .err 2
  else if a=110 then wordF [110,117,108,108] (a::r) ⟨0,key,[],0⟩
  else if a=116 then wordF [116,114,117,101] (a::r) ⟨1,key,[],0⟩
  else if a=102 then wordF [102,97,108,115,101] (a::r) ⟨2,key,[],0⟩
  else if a=34 then stringF key (a::r)
  else if a=91 then groupF (K false) 5 key 93 r
  else if a=123 then groupF (K true) 6 key 125 r
  else numberF key (a::r)
def nameF (ks:List (List UInt8)) (s:List UInt8) (f:List UInt8→List UInt8→Res):Res:=match unqF (skip s)with
 | none=> .err 3
 | some p=> if p.1∈ks then .err 7 else match skip ((skip s).drop p.2)with
  | []=> .err 3
  | a::r=> if a=58 then f p.1 r else .err 3
def close (o:Bool):UInt8:=if o=true then 125 else 93
def nextF (o:Bool) (s:List UInt8) (n:Nat) (l:List V) (f:List UInt8→Res):Res:=match skip s with
 | []=> .err 3
 | a::r=> if a=close o then .ok n l r else if a=44 then (f r).bind fun m l2 r2=> .ok (n+m) (l++l2) r2 else .err 3
def kids:Nat→Bool→Nat→Nat→List (List UInt8)→List UInt8→Res
 | 0,_,_,_,_,_=> .err 3
 | f+1,o,d,c,ks,s=>
  let one:=fun (key s1:List UInt8)=> (valW (fun o2=> kids f o2 (d+1) (c+1) []) key d c s1).bind fun n l r=> nextF o r n l fun r2=> kids f o d (c+l.length) (key::ks) r2
  if o=true then nameF ks s one else one [] s
def valF (f:Nat) (key:List UInt8) (d c:Nat) (s:List UInt8):Res:=valW (fun o2=> kids f o2 (d+1) (c+1) []) key d c s
def parseF (s:List UInt8):Res:=(valF s.length [] 0 0 s).bind fun n l r=> if skip r=[] then .ok n l [] else .err 3
end Js
end Go.Proofs.YtgmangikcfakgaaGreatDoor
namespace Go.Proofs.YtgmangikcfakgaaGreatDoor
open Go
namespace Js
open Jt
structure One (d:Nat) (o:Bool) (v:V) (l:List V) (t:List UInt8):Prop where
 own:Own v o
 deep:d < 50
 kids:∃ks,Rows (d+1) (isObj v) ks l t∧(ks.length:Int)=v.count∧(isObj v=true→ks.Nodup)
theorem One.rows {d:Nat} {o:Bool} {v:V} {l:List V} {t:List UInt8} (h:One d o v l t):Rows d o [v.key] (v::l) (item o v t):=by
 obtain ⟨ks,h1,h2,h3⟩:=h.kids
 exact .one h.own h.deep h1 h2 h3
theorem One.leaf {d:Nat} {o:Bool} {v:V} (hv:Own v o) (hd:d < 50) (h6:v.kind≠6) (hc:v.count=0):One d o v [] []:=by
 refine ⟨hv,hd,[], .nil _ _,by rw [hc];rfl,fun h=> ?_⟩
 exact absurd (of_decide_eq_true h) h6
def KOk (K:Bool→List UInt8→Res) (d c:Nat):Prop:=
 ∀o s n l r,K o s= .ok n l r→∃ks t,Rows d o ks l t∧ks.length=n∧(o=true→ks.Nodup)∧c+l.length≤5000
theorem bind_some {x:Res} {f:Nat→List V→List UInt8→Res} {n:Nat} {l:List V} {r:List UInt8} (h:x.bind f= .ok n l r):∃n1 l1 r1,x= .ok n1 l1 r1∧f n1 l1 r1= .ok n l r:=by
 cases x with
 | ok n1 l1 r1=> exact ⟨n1,l1,r1,rfl,h⟩
 | err e=> cases h
theorem qaz {n m:Nat} {l k:List V} {r q:List UInt8} (h:Res.ok n l r= .ok m k q):n=m∧l=k∧r=q:=by
 injection h with a b c
 exact ⟨a,b,c⟩
theorem qi8 {K:List UInt8→Res} {kind:Int} {key:List UInt8} {c:UInt8} {s:List UInt8} {n:Nat} {l:List V} {r:List UInt8} {d m:Nat} {o:Bool} (hd:d < 50) (hk:kind=5∨kind=6) (ho:o=false→key=[]) (hv:validF key=true) (hm:m < 5000)
  (hK:∀s n l r,K s= .ok n l r→∃ks t,Rows (d+1) (decide (kind=6)) ks l t∧ks.length=n∧(decide (kind=6)=true→ks.Nodup)∧m+1+l.length≤5000) (h:groupF K kind key c s= .ok n l r):
  n=1∧∃v l2 t,l=v::l2∧v.key=key∧One d o v l2 t∧m+l.length≤5000:=by
 have empty:∀r0,Res.ok 1 [⟨kind,key,[],0⟩] r0= .ok n l r→n=1∧∃v l2 t,l=v::l2∧v.key=key∧One d o v l2 t∧m+l.length≤5000:=fun r0 h=> by
  obtain ⟨h1,h2,_⟩:=qaz h
  subst h1 h2;refine ⟨rfl,_,_,[],rfl,rfl,⟨⟨ho,hv, .inr (.inr (.inr ⟨hk,rfl,Int.le_refl 0⟩))⟩,hd,[], .nil _ _,rfl,fun _=> List.nodup_nil⟩, ?_⟩
  rw [List.length_singleton];omega
 have full:∀s0,((K s0).bind fun n l r=> .ok 1 (⟨kind,key,[],n⟩::l) r)= .ok n l r→n=1∧∃v l2 t,l=v::l2∧v.key=key∧One d o v l2 t∧m+l.length≤5000:=fun s0 h=> by
  obtain ⟨n1,l1,r1,hx,h⟩:=bind_some h
  obtain ⟨ks,t,k1,k2,k3,k4⟩:=hK _ _ _ _ hx
  obtain ⟨h1,h2,_⟩:=qaz h
  subst h1 h2;refine ⟨rfl,_,_,t,rfl,rfl,⟨⟨ho,hv, .inr (.inr (.inr ⟨hk,rfl,Int.natCast_nonneg n1⟩))⟩,hd,ks,k1,by rw [k2],k3⟩, ?_⟩
  rw [List.length_cons];omega
 unfold groupF at h
 split at h
 ·exact full _ h
 ·split at h
  ·exact empty _ h
  ·exact full _ h
theorem qey {w s:List UInt8} {v:V} {n:Nat} {l:List V} {r:List UInt8} (h:wordF w s v= .ok n l r):n=1∧l=[v]:=by
 unfold wordF at h
 split at h
 ·obtain ⟨h1,h2,_⟩:=qaz h
  exact ⟨h1.symm,h2.symm⟩
 ·cases h
theorem qfs {K:Bool→List UInt8→Res} {key s:List UInt8} {d c n:Nat} {l:List V} {r:List UInt8} {o:Bool} (hK:KOk K (d+1) (c+1)) (ho:o=false→key=[]) (hv:validF key=true) (h:valW K key d c s= .ok n l r):
  n=1∧∃v l2 t,l=v::l2∧v.key=key∧One d o v l2 t∧c+l.length≤5000:=by
 unfold valW at h
 split at h
 ·cases h
 next a u _=>
  split at h
  ·cases h
  split at h
  ·cases h
  next hdc=>
   have hd:d < 50:=by omega
   have hc:c < 5000:=by omega
   have leaf:∀(v:V),v.key=key→v.kind≠6→v.count=0→Own v o→n=1∧l=[v]→n=1∧∃v l2 t,l=v::l2∧v.key=key∧One d o v l2 t∧c+l.length≤5000:=fun v h1 h2 h3 h4 ⟨h5,h6⟩=> by
    refine ⟨h5,v,[],[],h6,h1,One.leaf h4 hd h2 h3, ?_⟩
    rw [h6,List.length_singleton];omega
   split at h
   ·exact leaf _ rfl (show (0:Int)≠6 by decide) rfl ⟨ho,hv, .inl ⟨.inl rfl,rfl,rfl⟩⟩ (qey h)
   split at h
   ·exact leaf _ rfl (show (1:Int)≠6 by decide) rfl ⟨ho,hv, .inl ⟨.inr (.inl rfl),rfl,rfl⟩⟩ (qey h)
   split at h
   ·exact leaf _ rfl (show (2:Int)≠6 by decide) rfl ⟨ho,hv, .inl ⟨.inr (.inr rfl),rfl,rfl⟩⟩ (qey h)
   split at h
   ·unfold stringF at h
    split at h
    next p hp=>
     obtain ⟨h1,h2,_⟩:=qaz h
     obtain ⟨x,k⟩:=p
     exact leaf _ rfl (show (4:Int)≠6 by decide) rfl ⟨ho,hv, .inr (.inr (.inl ⟨rfl,(qfe hp).1,rfl⟩))⟩ ⟨h1.symm,h2.symm⟩
    ·cases h
   split at h
   ·exact qi8 hd (.inl rfl) ho hv hc (fun s n l r hx=> hK false s n l r hx) h
   split at h
   ·exact qi8 hd (.inr rfl) ho hv hc (fun s n l r hx=> hK true s n l r hx) h
   ·unfold numberF at h
    split at h
    ·cases h
    next h0=>
     obtain ⟨h1,h2,_⟩:=qaz h
     have hl:=qkw (a::u)
     have ht:=qp5 qnm h0
     rw [List.append_nil]at ht
     have hlen:((a::u).take (numF (a::u))).length=numF (a::u):=by rw [List.length_take];omega
     refine leaf _ rfl (show (3:Int)≠6 by decide) rfl ⟨ho,hv, .inr (.inl ⟨rfl,fun e=> h0 ?_, ?_,rfl⟩)⟩ ⟨h1.symm,h2.symm⟩
     ·rw [←hlen]
      exact congrArg List.length e
     ·exact ht.trans hlen.symm
theorem qtx {o:Bool} {s:List UInt8} {n:Nat} {l:List V} {f:List UInt8→Res} {m:Nat} {l2:List V} {r2:List UInt8} (h:nextF o s n l f= .ok m l2 r2):m=n∧l2=l∨∃s1 m1 l1,f s1= .ok m1 l1 r2∧m=n+m1∧l2=l++l1:=by
 unfold nextF at h
 split at h
 ·cases h
 split at h
 ·obtain ⟨h1,h2,_⟩:=qaz h
  exact .inl ⟨h1.symm,h2.symm⟩
 split at h
 ·obtain ⟨n1,l1,r1,hx,h⟩:=bind_some h
  obtain ⟨h1,h2,h3⟩:=qaz h
  subst h3;exact .inr ⟨_,n1,l1,hx,h1.symm,h2.symm⟩
 ·cases h
theorem qlh {ks:List (List UInt8)} {s:List UInt8} {f:List UInt8→List UInt8→Res} {m:Nat} {l2:List V} {r2:List UInt8} (h:nameF ks s f= .ok m l2 r2):∃key s1,f key s1= .ok m l2 r2∧validF key=true∧key∉ks:=by
 unfold nameF at h
 split at h
 ·cases h
 next p hp=>
  split at h
  ·cases h
  next hno=>
   split at h
   ·cases h
   split at h
   ·obtain ⟨x,k⟩:=p
    exact ⟨x,_,h,(qfe hp).1,hno⟩
   ·cases h
theorem qgl:∀(f:Nat) (o:Bool) (d c:Nat) (ks:List (List UInt8)) (s:List UInt8) (n:Nat) (l:List V) (r:List UInt8),kids f o d c ks s= .ok n l r→
  ∃K t,Rows d o K l t∧K≠[]∧K.length=n∧(o=true→K.Nodup∧∀k∈K,k∉ks)∧c+l.length≤5000:=by
 intro f
 induction f with
 | zero=> intro o d c ks s n l r h;cases h
 | succ f ih=>
  intro o d c ks s n l r h;have hK:KOk (fun o2=> kids f o2 (d+1) (c+1) []) (d+1) (c+1):=fun o2 s n l r hx=> by
   obtain ⟨K,t,h1,_,h3,h4,h5⟩:=ih _ _ _ _ _ _ _ _ hx
   exact ⟨K,t,h1,h3,fun e=> (h4 e).1,h5⟩
  have one:∀key s1,(o=false→key=[])→validF key=true→(o=true→key∉ks)→((valW (fun o2=> kids f o2 (d+1) (c+1) []) key d c s1).bind fun n l r=> nextF o r n l fun r2=> kids f o d (c+l.length) (key::ks) r2)= .ok n l r→
    ∃K t,Rows d o K l t∧K≠[]∧K.length=n∧(o=true→K.Nodup∧∀k∈K,k∉ks)∧c+l.length≤5000:=fun key s1 ho hv hno h=> by
   obtain ⟨n1,l1,r1,hx,h⟩:=bind_some h
   obtain ⟨rfl,v,lv,t,rfl,hkey,hone,hc⟩:=qfs hK ho hv hx
   rcases qtx h with ⟨rfl,rfl⟩ | ⟨s2,m1,l2,hy,rfl,rfl⟩
   ·refine ⟨_,_,hone.rows,List.cons_ne_nil _ _,rfl,fun e=> ⟨List.nodup_cons.2 ⟨List.not_mem_nil,List.nodup_nil⟩,fun k hk=> ?_⟩,hc⟩
    rw [List.mem_singleton.1 hk,hkey];exact hno e
   ·obtain ⟨K2,t2,k1,k2,k3,k4,k5⟩:=ih _ _ _ _ _ _ _ _ hy
    obtain ⟨ks0,q1,q2,q3⟩:=hone.kids
    match K2,k2 with
    | a::K3,_=>
     refine ⟨_,_, .more hone.own hone.deep q1 q2 q3 k1,List.cons_ne_nil _ _, ?_,fun e=> ⟨?_,fun k hk=> ?_⟩, ?_⟩
     ·rw [List.length_cons,k3,Nat.add_comm]
     ·rw [List.nodup_cons]
      refine ⟨fun hm=> (k4 e).2 _ hm ?_,(k4 e).1⟩
      rw [hkey];exact List.mem_cons_self
     ·rcases List.mem_cons.1 hk with rfl | hk
      ·rw [hkey]
       exact hno e
      ·exact fun hm=> (k4 e).2 _ hk (List.mem_cons_of_mem _ hm)
     ·rw [List.length_append]
      rw [Nat.add_assoc]at k5
      exact k5
  rw [kids]at h
  cases o with
  | true=>
   rw [if_pos rfl]at h
   obtain ⟨key,s1,hx,hv,hno⟩:=qlh h
   exact one key s1 (fun e=> by cases e) hv (fun _=> hno) hx
  | false=>
   rw [if_neg (by decide)]at h
   exact one [] s (fun _=> rfl) qa8 (fun e=> by cases e) h
theorem qd7 {s:List UInt8} {n:Nat} {l:List V} {r:List UInt8} (h:parseF s= .ok n l r):n=1∧r=[]∧∃t,Row l t:=by
 unfold parseF at h
 obtain ⟨n1,l1,r1,hx,h⟩:=bind_some h
 split at h
 ·obtain ⟨h1,h2,h3⟩:=qaz h
  subst h1 h2 h3;have hK:KOk (fun o2=> kids s.length o2 (0+1) (0+1) []) (0+1) (0+1):=fun o2 s n l r hx=> by
   obtain ⟨K,t,h1,_,h3,h4,h5⟩:=qgl _ _ _ _ _ _ _ _ _ hx
   exact ⟨K,t,h1,h3,fun e=> (h4 e).1,h5⟩
  obtain ⟨rfl,v,lv,t,rfl,hkey,hone,hc⟩:=qfs (o:=false) hK (fun _=> rfl) qa8 hx
  refine ⟨rfl,rfl,item false v t,by omega, ?_⟩
  have:=hone.rows
  rw [hkey]at this
  exact this
 ·cases h
end Js
end Go.Proofs.YtgmangikcfakgaaGreatDoor
namespace Go.Proofs.YtgmangikcfakgaaGreatDoor
open Go
namespace Js
open Jt
theorem qk9 {a:UInt8} (h:starts a=true):a≠32∧a≠9∧a≠10∧a≠13∧a≠93∧a≠125:=by
 refine ⟨?_, ?_, ?_, ?_, ?_, ?_⟩ <;> (rintro rfl;revert h;decide)
theorem qdo {a:UInt8} (h:starts a=true) (r:List UInt8):skip (a::r)=a::r:=by
 obtain ⟨h1,h2,h3,h4,_⟩:=qk9 h
 rw [skip,if_neg (by rintro (e | e | e | e) <;> contradiction)]
theorem qie {a:UInt8} (h:isD a=true):starts a=true:=by
 unfold starts
 rw [h,Bool.or_true]
def Ends (u:List UInt8):Prop:=u=[]∨∃a r,u=a::r∧(a=44∨a=93∨a=125∨a=32∨a=9∨a=10∨a=13)
theorem Ends.stops {u:List UInt8} (h:Ends u):Stops u:=by
 rcases h with rfl | ⟨a,r,rfl,h⟩
 ·exact qnm
 ·refine ⟨qf7 ?_, ?_, ?_⟩
  ·rcases h with rfl | rfl | rfl | rfl | rfl | rfl | rfl <;> decide
  ·rw [fracF,if_neg (by rcases h with rfl | rfl | rfl | rfl | rfl | rfl | rfl <;> simp)]
  ·rw [expF,if_neg (by rcases h with rfl | rfl | rfl | rfl | rfl | rfl | rfl <;> simp)]
theorem qkd {s:List UInt8} (h:numF s≠0):∃a r,s=a::r∧(a=45∨isD a=true):=by
 unfold numF at h
 by_cases hp:posF (s.drop (minF s))=0
 ·rw [if_pos hp]at h
  exact absurd rfl h
 ·obtain ⟨a,r,h1,h2⟩:=qx9 hp
  match s with
  | []=> cases h1
  | b::q=>
   by_cases hb:b=45
   ·exact ⟨b,q,rfl, .inl hb⟩
   ·have hm:minF (b::q)=0:=if_neg hb
    rw [hm,List.drop_zero]at h1
    exact ⟨a,r,h1, .inr h2⟩
theorem q0p {s u:List UInt8} (h:numF s=s.length) (h0:s≠[]) (hu:Stops u):numF (s++u)=s.length:=by
 have hne:numF s≠0:=fun e=> h0 (List.eq_nil_of_length_eq_zero (h.symm.trans e))
 have:=qp5 hu hne
 rw [h,List.take_length]at this
 exact this
theorem qns {v:V} {o:Bool} (hv:Own v o) (t:List UInt8):∃a r,body v t=a::r∧starts a=true:=by
 obtain ⟨_,_,h⟩:=hv
 unfold body
 rcases h with ⟨h | h | h,_⟩ | ⟨h,h1,h2,_⟩ | ⟨h,_⟩ | ⟨h | h,_⟩
 ·rw [h];exact ⟨_,_,rfl,by decide⟩
 ·rw [h];exact ⟨_,_,rfl,by decide⟩
 ·rw [h];exact ⟨_,_,rfl,by decide⟩
 ·rw [h]
  obtain ⟨a,r,h3,h4⟩:=qkd (s:=v.text) (fun e=> h1 (List.eq_nil_of_length_eq_zero (h2.symm.trans e)))
  refine ⟨a,r,h3, ?_⟩
  rcases h4 with rfl | h4
  ·decide
  ·exact qie h4
 ·rw [h];exact ⟨_,_,rfl,by decide⟩
 ·rw [h];exact ⟨_,_,rfl,by decide⟩
 ·rw [h];exact ⟨_,_,rfl,by decide⟩
theorem qmp {v:V} {o:Bool} (hv:Own v o) (t:List UInt8):∃a r,item o v t=a::r∧starts a=true:=by
 unfold item
 split
 ·exact ⟨34,_,rfl,by decide⟩
 ·exact qns hv t
theorem qw2 {d:Nat} {o:Bool} {ks:List (List UInt8)} {l:List V} {t:List UInt8} (h:Rows d o ks l t) (hk:ks≠[]):∃a r,t=a::r∧starts a=true:=by
 cases h with
 | nil=> exact absurd rfl hk
 | one hv _ _ _ _=> exact qmp hv _
 | @more _ _ v0 _ _ t0 _ _ _ _ hv _ _ _ _ _=>
  obtain ⟨a,r,h1,h2⟩:=qmp hv t0
  exact ⟨a,_,by rw [h1];rfl,h2⟩
theorem qay {d:Nat} {o:Bool} {ks:List (List UInt8)} {l:List V} {t:List UInt8} (h:Rows d o ks l t) (hk:ks=[]):l=[]∧t=[]:=by
 cases h with
 | nil=> exact ⟨rfl,rfl⟩
 | one _ _ _ _ _=> cases hk
 | more _ _ _ _ _ _=> cases hk
def Comes (E:List UInt8→Prop) (P:List UInt8→Res) (t:List UInt8) (n:Nat) (l:List V):Prop:=(∀u,E u→P (t++u)= .ok n l u)∨∀u,P (t++u)= .err 2
theorem qkq {K:List UInt8→Res} {kind:Int} {key:List UInt8} {c:UInt8} (hc:c=93∨c=125) {d:Nat} {o:Bool} {ks:List (List UInt8)} {l:List V} {t:List UInt8} (hk:Rows d o ks l t)
  (hK:ks≠[]→(∀u,K (t++c::u)= .ok ks.length l u)∨∀u,K (t++u)= .err 2):
  ((∀u,groupF K kind key c (t++c::u)= .ok 1 (⟨kind,key,[],(ks.length:Int)⟩::l) u)∨∀u,groupF K kind key c (t++u)= .err 2)∧
  ((ks≠[]→∀u,K (t++c::u)= .ok ks.length l u)→∀u,groupF K kind key c (t++c::u)= .ok 1 (⟨kind,key,[],(ks.length:Int)⟩::l) u):=by
 by_cases h0:ks=[]
 ·obtain ⟨rfl,rfl⟩:=qay hk h0
  subst h0;have e:∀u,groupF K kind key c ([]++c::u)= .ok 1 [⟨kind,key,[],(([]:List (List UInt8)).length:Int)⟩] u:=fun u=> by
   have hs:skip (c::u)=c::u:=by
    rcases hc with rfl | rfl
    ·rw [skip,if_neg (by decide)]
    ·rw [skip,if_neg (by decide)]
   rw [List.nil_append];unfold groupF;rw [hs];exact if_pos rfl
  exact ⟨.inl e,fun _=> e⟩
 ·obtain ⟨a,r,rfl,hs⟩:=qw2 hk h0
  have hac:a≠c:=by
   obtain ⟨_,_,_,_,h5,h6⟩:=qk9 hs
   rcases hc with rfl | rfl
   ·exact h5
   ·exact h6
  have e:∀u,groupF K kind key c (a::r++u)=(K (a::r++u)).bind fun n l r=> .ok 1 (⟨kind,key,[],n⟩::l) r:=fun u=> by
   unfold groupF;rw [List.cons_append,qdo hs];exact if_neg hac
  have good:(∀u,K (a::r++c::u)= .ok ks.length l u)→∀u,groupF K kind key c (a::r++c::u)= .ok 1 (⟨kind,key,[],(ks.length:Int)⟩::l) u:=fun h u=> by
   rw [e,h u];rfl
  refine ⟨?_,fun h=> good (h h0)⟩
  rcases hK h0 with h | h
  ·exact .inl (good h)
  ·refine .inr fun u=> ?_
   rw [e,h u];rfl
theorem V.eta {v:V} {k:Int} {x:List UInt8} {c:Int} (h1:v.kind=k) (h2:v.text=x) (h3:v.count=c):(⟨k,v.key,x,c⟩:V)=v:=by
 subst h1 h2 h3
 rfl
theorem qjz {K:Bool→List UInt8→Res} {d e c:Nat} {o:Bool} {v:V} {ks:List (List UInt8)} {l:List V} {t:List UInt8} (hv:Own v o) (hk:Rows (d+1) (isObj v) ks l t) (hn:(ks.length:Int)=v.count)
  (hK:ks≠[]→((∀u,K (isObj v) (t++close (isObj v)::u)= .ok ks.length l u)∨∀u,K (isObj v) (t++u)= .err 2)∧(e+1≤d+1→c+1+l.length≤5000→∀u,K (isObj v) (t++close (isObj v)::u)= .ok ks.length l u)):
  Comes Ends (valW K v.key e c) (body v t) 1 (v::l)∧(e < 50→e≤d→c+1+l.length≤5000→∀u,Ends u→valW K v.key e c (body v t++u)= .ok 1 (v::l) u):=by
 obtain ⟨a,r,hb,hs⟩:=qns hv t
 have h0:∀u,skip (body v t++u)=a::(r++u):=fun u=> by rw [hb,List.cons_append,qdo hs]
 have hns:¬starts a=false:=by rw [hs];decide
 by_cases hbig:50≤e∨5000≤c
 ·refine ⟨.inr fun u=> ?_,fun h1 h2 h3=> ?_⟩
  ·unfold valW
   rw [h0];dsimp only
   rw [if_neg hns,if_pos hbig]
  ·omega
 have leaf:ks=[]→(∀u,Ends u→valW K v.key e c (body v t++u)= .ok 1 [v] u)→Comes Ends (valW K v.key e c) (body v t) 1 (v::l)∧(e < 50→e≤d→c+1+l.length≤5000→∀u,Ends u→valW K v.key e c (body v t++u)= .ok 1 (v::l) u):=fun h1 h2=> by
  rw [(qay hk h1).1];exact ⟨.inl h2,fun _ _ _=> h2⟩
 have nil_of:v.count=0→ks=[]:=fun h=> List.eq_nil_of_length_eq_zero (by omega)
 obtain ⟨_,_,h⟩:=hv
 rcases h with ⟨h,h1,h2⟩ | ⟨h,h1,h2,h3⟩ | ⟨h,h1,h2⟩ | ⟨h,h1,h2⟩
 ·refine leaf (nil_of h2) fun u _=> ?_
  rcases h with h | h | h
  all_goals
   have hb2:=hb
   unfold body at hb2;rw [h]at hb2
   obtain ⟨rfl,rfl⟩:=List.cons.inj hb2
   unfold valW;rw [h0];dsimp only
   rw [if_neg hns,if_neg hbig];rw [←V.eta h h1 h2];rfl
 ·refine leaf (nil_of h3) fun u hu=> ?_
  have hb2:body v t=v.text:=by unfold body;rw [h];rfl
  have hn1:=q0p h2 h1 hu.stops
  have hn0:v.text.length≠0:=fun e=> h1 (List.eq_nil_of_length_eq_zero e)
  rw [hb2]at hb h0
  obtain ⟨a',r',hh,ha⟩:=qkd (s:=v.text) (by rw [h2];exact hn0)
  rw [hh]at hb
  obtain ⟨rfl,rfl⟩:=List.cons.inj hb
  unfold valW;rw [hb2,h0];dsimp only
  have hd:a'≠110∧a'≠116∧a'≠102∧a'≠34∧a'≠91∧a'≠123:=by
   rcases ha with rfl | ha
   ·decide
   ·refine ⟨?_, ?_, ?_, ?_, ?_, ?_⟩ <;> (rintro rfl;revert ha;decide)
  rw [if_neg hns,if_neg hbig,if_neg hd.1,if_neg hd.2.1,if_neg hd.2.2.1,if_neg hd.2.2.2.1,if_neg hd.2.2.2.2.1,if_neg hd.2.2.2.2.2];rw [←List.cons_append,←hh];unfold numberF;rw [hn1,if_neg hn0,List.take_left,List.drop_left,V.eta h rfl h3]
 ·refine leaf (nil_of h2) fun u _=> ?_
  have hb2:body v t=quoteF v.text:=by unfold body;rw [h];rfl
  have hq:=qo0 v.text u
  rw [qc2 _ h1]at hq
  rw [hb2]at hb h0
  unfold valW;rw [hb2,h0];dsimp only
  have ha:a=34:=(List.cons.inj hb).1.symm
  rw [if_neg hns,if_neg hbig];rw [←List.cons_append,←hb];subst ha;rw [if_neg (by decide),if_neg (by decide),if_neg (by decide),if_pos rfl];unfold stringF;rw [hq];dsimp only
  rw [List.drop_left,V.eta h rfl h2]
 ·have hkey:(⟨v.kind,v.key,[],(ks.length:Int)⟩:V)=v:=V.eta rfl h1 hn.symm
  rcases h with h | h
  ·have ho:isObj v=false:=by unfold isObj;rw [h];decide
   rw [ho]at hK hk
   have hb2:body v t=91::(t++[93]):=by unfold body;rw [h];rfl
   have step:∀u,valW K v.key e c (91::(t++u))=groupF (K false) 5 v.key 93 (t++u):=fun u=> by
    unfold valW;rw [qdo (by decide)];dsimp only
    rw [if_neg (by decide),if_neg hbig];rfl
   obtain ⟨g1,g2⟩:=qkq (K:=K false) (kind:=5) (key:=v.key) (c:=93) (.inl rfl) hk (fun h=> (hK h).1)
   rw [h]at hkey
   rw [hkey]at g1 g2
   have fit:∀u,body v t++u=91::(t++93::u):=fun u=> by rw [hb2,List.cons_append,List.append_assoc];rfl
   refine ⟨?_,fun _ e2 e3 u _=> ?_⟩
   ·rcases g1 with g | g
    ·exact .inl fun u _=> by rw [fit,step,g]
    ·exact .inr fun u=> by rw [fit,step,g]
   ·rw [fit,step]
    exact g2 (fun h=> (hK h).2 (Nat.succ_le_succ e2) e3) u
  ·have ho:isObj v=true:=by unfold isObj;rw [h];decide
   rw [ho]at hK hk
   have hb2:body v t=123::(t++[125]):=by unfold body;rw [h];rfl
   have step:∀u,valW K v.key e c (123::(t++u))=groupF (K true) 6 v.key 125 (t++u):=fun u=> by
    unfold valW;rw [qdo (by decide)];dsimp only
    rw [if_neg (by decide),if_neg hbig];rfl
   obtain ⟨g1,g2⟩:=qkq (K:=K true) (kind:=6) (key:=v.key) (c:=125) (.inr rfl) hk (fun h=> (hK h).1)
   rw [h]at hkey
   rw [hkey]at g1 g2
   have fit:∀u,body v t++u=123::(t++125::u):=fun u=> by rw [hb2,List.cons_append,List.append_assoc];rfl
   refine ⟨?_,fun _ e2 e3 u _=> ?_⟩
   ·rcases g1 with g | g
    ·exact .inl fun u _=> by rw [fit,step,g]
    ·exact .inr fun u=> by rw [fit,step,g]
   ·rw [fit,step]
    exact g2 (fun h=> (hK h).2 (Nat.succ_le_succ e2) e3) u
end Js
end Go.Proofs.YtgmangikcfakgaaGreatDoor
namespace Go.Proofs.YtgmangikcfakgaaGreatDoor
open Go
namespace Js
open Jt
theorem qeg {f e c:Nat} {o:Bool} {names:List (List UInt8)} {v:V} {d:Bool} (hv:Own v d) (hd:d=o) (hno:o=true→v.key∉names) (t u:List UInt8):
  kids (f+1) o e c names (item o v t++u)=(valW (fun o2=> kids f o2 (e+1) (c+1) []) v.key e c (body v t++u)).bind fun n l r=> nextF o r n l fun r2=> kids f o e (c+l.length) (v.key::names) r2:=by
 subst hd
 rw [kids]
 cases d with
 | false=>
  rw [if_neg (by decide),hv.1 rfl];rfl
 | true=>
  rw [if_pos rfl];have e1:item true v t++u=quoteF v.key++58::(body v t++u):=by
   unfold item;rw [if_pos rfl,List.append_assoc,List.cons_append]
  have e2:skip (item true v t++u)=quoteF v.key++58::(body v t++u):=by
   rw [e1];exact qdo (a:=34) (by decide) _
  unfold nameF;rw [e2,qo0,qc2 _ hv.2.1];dsimp only
  rw [if_neg (hno rfl),List.drop_left,skip,if_neg (by decide)];dsimp only
  rw [if_pos rfl]
theorem qjq {v:V} {o:Bool} {ks:List (List UInt8)} {t:List UInt8} (hv:Own v o) (hn:(ks.length:Int)=v.count) (h0:ks≠[]):t.length+2≤(item o v t).length:=by
 have hb:t.length+2=(body v t).length:=by
  have hp:0 < ks.length:=List.length_pos_iff.2 h0
  obtain ⟨_,_,h⟩:=hv
  rcases h with ⟨_,_,h⟩ | ⟨_,_,_,h⟩ | ⟨_,_,h⟩ | ⟨h,_,_⟩
  ·omega
  ·omega
  ·omega
  ·unfold body
   rcases h with h | h
   all_goals
    rw [h];show _=(_::(t++[_])).length
    rw [List.length_cons,List.length_append,List.length_singleton]
 unfold item
 split
 ·rw [List.length_append,List.length_cons]
  omega
 ·omega
theorem qua (o:Bool) (u:List UInt8) (n:Nat) (l:List V) (f:List UInt8→Res):nextF o (close o::u) n l f= .ok n l u:=by
 cases o with
 | false=>
  unfold nextF close;rw [if_neg (by decide),skip,if_neg (by decide)];rfl
 | true=>
  unfold nextF close;rw [if_pos rfl,skip,if_neg (by decide)];rfl
theorem qkz (o:Bool) (s:List UInt8) (n:Nat) (l:List V) (f:List UInt8→Res):nextF o (44::s) n l f=(f s).bind fun m l2 r2=> .ok (n+m) (l++l2) r2:=by
 cases o with
 | false=>
  unfold nextF close;rw [if_neg (by decide),skip,if_neg (by decide)];rfl
 | true=>
  unfold nextF close;rw [if_pos rfl,skip,if_neg (by decide)];rfl
theorem qtd (o:Bool) (u:List UInt8):Ends (close o::u):=by
 refine .inr ⟨_,_,rfl, ?_⟩
 cases o with
 | false=> exact .inr (.inl rfl)
 | true=> exact .inr (.inr (.inl rfl))
theorem qks (u:List UInt8):Ends (44::u):= .inr ⟨_,_,rfl, .inl rfl⟩
theorem qxv {d:Nat} {o:Bool} {ks:List (List UInt8)} {l:List V} {t:List UInt8} (h:Rows d o ks l t):ks≠[]→∀(f e c:Nat) (names:List (List UInt8)),t.length < f→(o=true→ks.Nodup∧∀k∈ks,k∉names)→
  ((∀u,kids f o e c names (t++close o::u)= .ok ks.length l u)∨∀u,kids f o e c names (t++u)= .err 2)∧(e≤d→c+l.length≤5000→∀u,kids f o e c names (t++close o::u)= .ok ks.length l u):=by
 induction h with
 | nil d o=> exact fun h=> absurd rfl h
 | @one d o v ks l t hv hd hk hn hu ih=>
  intro _ f e c names hf hno;match f,hf with
  | f+1,hf=>
  have hin:ks≠[]→_:=fun h0=> ih h0 f (e+1) (c+1) [] (by have:=qjq (t:=t) hv hn h0;omega) (fun h=> ⟨hu h,fun k _ hm=> by cases hm⟩)
  obtain ⟨v1,v2⟩:=qjz (K:=fun o2=> kids f o2 (e+1) (c+1) []) (e:=e) (c:=c) hv hk hn hin
  have hi:o=true→v.key∉names:=fun h=> (hno h).2 _ List.mem_cons_self
  have good:(∀u,Ends u→valW (fun o2=> kids f o2 (e+1) (c+1) []) v.key e c (body v t++u)= .ok 1 (v::l) u)→∀u,kids (f+1) o e c names (item o v t++close o::u)= .ok [v.key].length (v::l) u:=fun h u=> by
   rw [qeg hv rfl hi,h _ (qtd o u),Res.bind_ok,qua];rfl
  refine ⟨?_,fun h1 h2=> good (v2 (by omega) h1 (by rw [List.length_cons]at h2;omega))⟩
  rcases v1 with v1 | v1
  ·exact .inl (good v1)
  ·refine .inr fun u=> ?_
   rw [qeg hv rfl hi,v1 u];rfl
 | @more d o v ks l t k2 ks2 l2 t2 hv hd hk hn hu hr ih1 ih2=>
  intro _ f e c names hf hno;match f,hf with
  | f+1,hf=>
  rw [List.length_append,List.length_cons]at hf
  have hin:ks≠[]→_:=fun h0=> ih1 h0 f (e+1) (c+1) [] (by have:=qjq (t:=t) hv hn h0;omega) (fun h=> ⟨hu h,fun k _ hm=> by cases hm⟩)
  obtain ⟨v1,v2⟩:=qjz (K:=fun o2=> kids f o2 (e+1) (c+1) []) (e:=e) (c:=c) hv hk hn hin
  have hi:o=true→v.key∉names:=fun h=> (hno h).2 _ List.mem_cons_self
  obtain ⟨r1,r2⟩:=ih2 (List.cons_ne_nil _ _) f e (c+(v::l).length) (v.key::names) (by omega) (fun h=> by
   obtain ⟨n1,n2⟩:=hno h
   rw [List.nodup_cons]at n1
   refine ⟨n1.2,fun k hkm hm=> ?_⟩
   rcases List.mem_cons.1 hm with rfl | hm
   ·exact n1.1 hkm
   ·exact n2 k (List.mem_cons_of_mem _ hkm) hm)
  have e1:∀u,item o v t++44::t2++u=item o v t++44::(t2++u):=fun u=> by rw [List.append_assoc,List.cons_append]
  have good:(∀u,Ends u→valW (fun o2=> kids f o2 (e+1) (c+1) []) v.key e c (body v t++u)= .ok 1 (v::l) u)→(∀u,kids f o e (c+(v::l).length) (v.key::names) (t2++close o::u)= .ok (k2::ks2).length l2 u)→
    ∀u,kids (f+1) o e c names (item o v t++44::t2++close o::u)= .ok (v.key::k2::ks2).length (v::(l++l2)) u:=fun h h2 u=> by
   rw [e1,qeg hv rfl hi,h _ (qks _),Res.bind_ok,qkz,h2 u,Res.bind_ok,List.length_cons (a:=v.key),Nat.add_comm];rfl
  refine ⟨?_,fun h1 h2=> ?_⟩
  ·rcases v1 with v1 | v1
   ·rcases r1 with r1 | r1
    ·exact .inl (good v1 r1)
    ·refine .inr fun u=> ?_
     rw [e1,qeg hv rfl hi,v1 _ (qks _),Res.bind_ok,qkz,r1 u];rfl
   ·refine .inr fun u=> ?_
    rw [e1,qeg hv rfl hi,v1];rfl
  ·rw [List.length_cons,List.length_append]at h2
   refine good (v2 (by omega) h1 (by omega)) (r2 h1 ?_)
   rw [List.length_cons];omega
theorem qye {l:List V} {t:List UInt8} (h:Row l t) (f e c:Nat) (hf:t.length≤f):
  Comes Ends (valW (fun o2=> kids f o2 (e+1) (c+1) []) [] e c) t 1 l∧(e=0→c=0→∀u,Ends u→valW (fun o2=> kids f o2 (e+1) (c+1) []) [] e c (t++u)= .ok 1 l u):=by
 obtain ⟨hl,h⟩:=h
 generalize hk:([[]]:List (List UInt8))=KS at h
 cases h with
 | nil=> cases hk
 | @more _ _ v ks l t k2 ks2 l2 t2 _ _ _ _ _ _=> injection hk with _ h2;cases h2
 | @one _ _ v ks l t hv hd hk0 hn hu=>
  injection hk with hkey _
  obtain ⟨v1,v2⟩:=qjz (K:=fun o2=> kids f o2 (e+1) (c+1) []) (e:=e) (c:=c) hv hk0 hn (fun h0=> qxv hk0 h0 f (e+1) (c+1) [] (by have:=qjq (t:=t) hv hn h0;omega) (fun h=> ⟨hu h,fun k _ hm=> by cases hm⟩))
  rw [←hkey]at v1 v2
  refine ⟨v1,fun h1 h2=> v2 (by omega) (by omega) ?_⟩
  rw [List.length_cons]at hl
  omega
theorem qgy {l:List V} {t:List UInt8} (h:Row l t):parseF t= .ok 1 l []:=by
 have:=(qye h t.length 0 0 (Nat.le_refl _)).2 rfl rfl [] (.inl rfl)
 rw [List.append_nil]at this
 unfold parseF valF
 rw [this]
 rfl
end Js
end Go.Proofs.YtgmangikcfakgaaGreatDoor
namespace Go.Proofs.YtgmangikcfakgaaGreatDoor
open Go
namespace Js
open Jt
theorem qpr {d:Nat} {o:Bool} {ks:List (List UInt8)} {l:List V} {t:List UInt8} (h:Rows d o ks l t):∀(d':Nat) (ks':List (List UInt8)) (l':List V) (t':List UInt8) (x x':List V),Rows d' o ks' l' t'→ks.length=ks'.length→l++x=l'++x'→ks=ks'∧l=l'∧t=t':=by
 induction h with
 | nil d o=>
  intro d' ks' l' t' x x' h hl _
  have h0:ks'=[]:=List.eq_nil_of_length_eq_zero hl.symm
  obtain ⟨rfl,rfl⟩:=qay h h0
  exact ⟨h0.symm,rfl,rfl⟩
 | @one d o v ks l t hv hd hk hn hu ih=>
  intro d' ks' l' t' x x' h hl he
  cases h with
  | nil=> cases hl
  | @more _ _ v2 ksb lb tb k2 ks2 l2 t2 _ _ _ _ _ _=>
   simp only [List.length_cons,List.length_nil]at hl
   omega
  | @one _ _ v2 ksb lb tb hv2 hd2 hk2 hn2 hu2=>
   rw [List.cons_append,List.cons_append]at he
   obtain ⟨rfl,hx⟩:=List.cons.inj he
   obtain ⟨_,rfl,rfl⟩:=ih _ _ _ _ _ _ hk2 (by omega) hx
   exact ⟨rfl,rfl,rfl⟩
 | @more d o v ks l t k2 ks2 l2 t2 hv hd hk hn hu hr ih1 ih2=>
  intro d' ks' l' t' x x' h hl he
  cases h with
  | nil=> cases hl
  | one _ _ _ _ _=>
   simp only [List.length_cons,List.length_nil]at hl
   omega
  | @more _ _ v2 ksb lb tb kb ksc lc tc hv2 hd2 hk2 hn2 hu2 hr2=>
   rw [List.cons_append,List.cons_append]at he
   obtain ⟨rfl,hx⟩:=List.cons.inj he
   rw [List.append_assoc,List.append_assoc]at hx
   obtain ⟨_,rfl,rfl⟩:=ih1 _ _ _ _ _ _ hk2 (by omega) hx
   have hy:=List.append_cancel_left hx
   obtain ⟨e1,rfl,rfl⟩:=ih2 _ _ _ _ _ _ hr2 (by
    simp only [List.length_cons]at hl ⊢
    omega) hy
   rw [e1];exact ⟨rfl,rfl,rfl⟩
theorem qbr {d:Nat} {o:Bool} {k:List UInt8} {ks:List (List UInt8)} {l:List V} {t:List UInt8} (h:Rows d o (k::ks) l t):∃v l1 l2 t1 t2,l=v::(l1++l2)∧v.key=k∧One d o v l1 t1∧Rows d o ks l2 t2∧t=item o v t1++if ks=[] then [] else 44::t2:=by
 generalize hk:k::ks=KS at h
 cases h with
 | nil=> cases hk
 | @one _ _ v ks0 l0 t0 hv hd hk0 hn hu=>
  injection hk with h1 h2
  subst h2;refine ⟨v,l0,[],t0,[],by rw [List.append_nil],h1.symm,⟨hv,hd,ks0,hk0,hn,hu⟩, .nil _ _, ?_⟩
  rw [if_pos rfl,List.append_nil]
 | @more _ _ v ks0 l0 t0 k2 ks2 l2 t2 hv hd hk0 hn hu hr=>
  injection hk with h1 h2
  subst h2;refine ⟨v,l0,l2,t0,t2,rfl,h1.symm,⟨hv,hd,ks0,hk0,hn,hu⟩,hr, ?_⟩
  rw [if_neg (List.cons_ne_nil _ _)]
end Js
end Go.Proofs.YtgmangikcfakgaaGreatDoor
namespace Go.Proofs.YtgmangikcfakgaaGreatDoor
open Go
namespace Js
open Jt
end Js
end Go.Proofs.YtgmangikcfakgaaGreatDoor
namespace Go.Proofs.YtgmangikcfakgaaGreatDoor
open Go
namespace Js
open Jt
def endW:List V→Nat→Option Nat
 | _,0=> some 0
 | [],_+1=> none
 | v::r,w+1=> if v.count < 0 then none else (endW r (w+v.count.toNat)).map (·+1)
theorem qnu (l:List V):endW l 0=some 0:=by cases l <;> rfl
theorem qim:∀(l:List V) (w n:Nat),endW l w=some n→w≤n∧n≤l.length:=by
 intro l
 induction l with
 | nil=>
  intro w n h;cases w with
  | zero=> cases h;exact ⟨Nat.le_refl _,Nat.le_refl _⟩
  | succ w=> cases h
 | cons v r ih=>
  intro w n h;cases w with
  | zero=> cases h;exact ⟨Nat.le_refl _,Nat.zero_le _⟩
  | succ w=>
   rw [endW]at h
   split at h
   ·cases h
   ·obtain ⟨m,hm,rfl⟩:=Option.map_eq_some_iff.1 h
    have:=ih _ _ hm
    rw [List.length_cons];omega
theorem qwb {d:Nat} {o:Bool} {ks:List (List UInt8)} {l:List V} {t:List UInt8} (h:Rows d o ks l t):∀(x:List V) (w:Nat),endW (l++x) (ks.length+w)=(endW x w).map (·+l.length):=by
 have fits:∀ {v:V} {n:Nat},(n:Int)=v.count→¬v.count < 0∧v.count.toNat=n:=fun h=> by omega
 induction h with
 | nil d o=>
  intro x w;rw [List.nil_append,List.length_nil,Nat.zero_add];cases endW x w <;> rfl
 | @one d o v ks l t hv hd hk hn hu ih=>
  intro x w;rw [List.cons_append,List.length_singleton,Nat.add_comm,endW,if_neg (fits hn).1,(fits hn).2,Nat.add_comm,ih x w];cases endW x w with
  | none=> rfl
  | some m=> rfl
 | @more d o v ks l t k2 ks2 l2 t2 hv hd hk hn hu hr ih1 ih2=>
  intro x w;have e:(v.key::k2::ks2).length+w=((k2::ks2).length+w)+1:=by
   simp only [List.length_cons]
   omega
  rw [List.cons_append,e,endW,if_neg (fits hn).1,(fits hn).2,Nat.add_comm,List.append_assoc,ih1 (l2++x),ih2 x w];cases endW x w with
  | none=> rfl
  | some m=>
   show some (m+l2.length+l.length+1)=some (m+(v::(l++l2)).length)
   rw [List.length_cons,List.length_append];congr 1
   omega
theorem qe1 {d:Nat} {o:Bool} {v:V} {l:List V} {t:List UInt8} (h:One d o v l t) (x:List V):endW (v::(l++x)) 1=some (l.length+1):=by
 have:=qwb h.rows x 0
 rw [qnu]at this
 rw [List.cons_append]at this
 refine Eq.trans this ?_
 show some (0+(v::l).length)=_
 rw [Nat.zero_add,List.length_cons]
def partsF:Nat→List V→List (List V)
 | 0,_=> []
 | n+1,l=> match endW l 1 with
  | none=> []
  | some m=> l.take m::partsF n (l.drop m)
inductive Parts (d:Nat) (o:Bool):List (List UInt8)→List (List V)→Prop
 | nil:Parts d o [] []
 | cons {v:V} {l:List V} {t:List UInt8} {ks:List (List UInt8)} {P:List (List V)} (h:One d o v l t) (r:Parts d o ks P):Parts d o (v.key::ks) ((v::l)::P)
theorem Parts.rows {d:Nat} {o:Bool} {ks:List (List UInt8)} {P:List (List V)} (h:Parts d o ks P):∃t,Rows d o ks P.flatten t:=by
 induction h with
 | nil=> exact ⟨[], .nil _ _⟩
 | @cons v l t ks P h r ih=>
  obtain ⟨t2,ih⟩:=ih
  obtain ⟨ks0,q1,q2,q3⟩:=h.kids
  rw [List.flatten_cons];match ks,ih with
  | [],ih=>
   obtain ⟨e,_⟩:=qay ih rfl
   rw [e,List.append_nil];exact ⟨_,h.rows⟩
  | a::b,ih=> exact ⟨_, .more h.own h.deep q1 q2 q3 ih⟩
theorem Parts.len {d:Nat} {o:Bool} {ks:List (List UInt8)} {P:List (List V)} (h:Parts d o ks P):P.length=ks.length:=by
 induction h with
 | nil=> rfl
 | cons _ _ ih=> rw [List.length_cons,List.length_cons,ih]
theorem qcd {d:Nat} {o:Bool}:∀(ks:List (List UInt8)) (l:List V) (t:List UInt8),Rows d o ks l t→∃P,P.flatten=l∧Parts d o ks P∧∀x,partsF ks.length (l++x)=P:=by
 intro ks
 induction ks with
 | nil=>
  intro l t h;obtain ⟨rfl,_⟩:=qay h rfl
  exact ⟨[],rfl, .nil,fun x=> rfl⟩
 | cons k ks ih=>
  intro l t h;obtain ⟨v,l1,l2,t1,t2,rfl,rfl,hone,hr,_⟩:=qbr h
  obtain ⟨P,h1,h2,h3⟩:=ih l2 t2 hr
  refine ⟨(v::l1)::P,by rw [List.flatten_cons,h1,List.cons_append], .cons hone h2,fun x=> ?_⟩
  have e:v::(l1++l2)++x=v::(l1++(l2++x)):=by rw [List.cons_append,List.append_assoc]
  rw [List.length_cons,partsF,e,qe1 hone];dsimp only
  rw [List.take_succ_cons,List.take_left,List.drop_succ_cons,List.drop_left,h3 x]
theorem Parts.perm {d:Nat} {o:Bool} {P Q:List (List V)} (h:P.Perm Q):∀ {ks:List (List UInt8)},Parts d o ks P→∃ks2,ks.Perm ks2∧Parts d o ks2 Q:=by
 induction h with
 | nil=> exact fun h=> ⟨_, .refl _,h⟩
 | cons x _ ih=>
  intro ks h;cases h with
  | @cons v l t ks P h r=>
   obtain ⟨k2,h1,h2⟩:=ih r
   exact ⟨_,h1.cons _, .cons h h2⟩
 | swap x y l=>
  intro ks h;cases h with
  | cons h r=>
   cases r with
   | cons h2 r=> exact ⟨_, .swap _ _ _, .cons h2 (.cons h r)⟩
 | trans _ _ ih1 ih2=>
  intro ks h;obtain ⟨k2,h1,h2⟩:=ih1 h
  obtain ⟨k3,h3,h4⟩:=ih2 h2
  exact ⟨k3,h1.trans h3,h4⟩
def ltF:List UInt8→List UInt8→Bool
 | _,[]=> false
 | [],_::_=> true
 | a::r,b::s=> if a=b then ltF r s else decide (a.toNat < b.toNat)
theorem lt_irrefl:∀s,ltF s s=false
 | []=> rfl
 | a::r=> by rw [ltF,if_pos rfl,lt_irrefl r]
theorem qfh:∀s u,s≠u→ltF s u=false→ltF u s=true
 | [],[],h,_=> absurd rfl h
 | [],_::_,_,h=> by cases h
 | _::_,[],_,_=> rfl
 | a::r,b::s,h,hf=> by
  rw [ltF]at hf ⊢
  by_cases e:a=b
  ·subst e
   rw [if_pos rfl]at hf ⊢
   exact qfh r s (fun e=> h (by rw [e])) hf
  ·rw [if_neg e]at hf
   rw [if_neg (fun e2=> e e2.symm)];have h1:=of_decide_eq_false hf
   have h2:a.toNat≠b.toNat:=fun e2=> e (UInt8.toNat_inj.1 e2)
   exact decide_eq_true (by omega)
theorem qc5:∀s u v,ltF s u=true→ltF u v=true→ltF s v=true
 | s,[],_,h,_=> by cases s <;> simp [ltF]at h
 | _,b::s,[],_,h=> by simp [ltF]at h
 | [],_::_,_::_,_,_=> rfl
 | a::r,b::s,c::u,h1,h2=> by
  rw [ltF]at h1 h2 ⊢
  by_cases e:a=b
  ·subst e
   rw [if_pos rfl]at h1
   by_cases e2:a=c
   ·subst e2
    rw [if_pos rfl]at h2 ⊢
    exact qc5 r s u h1 h2
   ·rw [if_neg e2]at h2 ⊢
    exact h2
  ·rw [if_neg e]at h1
   have h1:=of_decide_eq_true h1
   by_cases e2:b=c
   ·subst e2
    rw [if_neg e];exact decide_eq_true h1
   ·rw [if_neg e2]at h2
    have h2:=of_decide_eq_true h2
    have e3:a≠c:=fun e3=> by subst e3;omega
    rw [if_neg e3];exact decide_eq_true (by omega)
def keyOf:List V→List UInt8
 | []=> []
 | v::_=> v.key
def insF (p:List V):List (List V)→List (List V)
 | []=> [p]
 | q::r=> if ltF (keyOf q) (keyOf p)=true then q::insF p r else p::q::r
def ordF:List (List V)→List (List V)
 | []=> []
 | p::r=> insF p (ordF r)
theorem qj5 (p:List V):∀P,(p::P).Perm (insF p P)
 | []=> .refl _
 | q::r=> by
  rw [insF];split
  ·exact (List.Perm.swap _ _ _).trans ((qj5 p r).cons _)
  ·exact .refl _
theorem qa1:∀P:List (List V),P.Perm (ordF P)
 | []=> .refl _
 | p::r=> ((qa1 r).cons _).trans (qj5 p _)
def sortF:Nat→List V→List V
 | 0,l=> l
 | _+1,[]=> []
 | f+1,v::r=> v::((if isObj v=true then ordF else id) ((partsF v.count.toNat r).map (sortF f))).flatten
end Js
end Go.Proofs.YtgmangikcfakgaaGreatDoor
namespace Go.Proofs.YtgmangikcfakgaaGreatDoor
open Go
namespace Js
open Jt
def Rise (ks:List (List UInt8)):Prop:=ks.Pairwise fun a b=> ltF a b=true
theorem Rise.nodup {ks:List (List UInt8)} (h:Rise ks):ks.Nodup:=List.Pairwise.imp (fun {a b} h e=> by rw [e,lt_irrefl]at h;cases h) h
inductive SR:Nat→Bool→List (List UInt8)→List V→List UInt8→Prop
 | nil (d:Nat) (o:Bool):SR d o [] [] []
 | one {d:Nat} {o:Bool} {v:V} {ks:List (List UInt8)} {l:List V} {t:List UInt8} (hv:Own v o) (hd:d < 50) (hk:SR (d+1) (isObj v) ks l t) (hn:(ks.length:Int)=v.count) (hu:isObj v=true→Rise ks):SR d o [v.key] (v::l) (item o v t)
 | more {d:Nat} {o:Bool} {v:V} {ks:List (List UInt8)} {l:List V} {t:List UInt8} {k2:List UInt8} {ks2:List (List UInt8)} {l2:List V} {t2:List UInt8} (hv:Own v o) (hd:d < 50) (hk:SR (d+1) (isObj v) ks l t) (hn:(ks.length:Int)=v.count) (hu:isObj v=true→Rise ks)
  (hr:SR d o (k2::ks2) l2 t2):SR d o (v.key::k2::ks2) (v::(l++l2)) (item o v t++44::t2)
theorem SR.rows {d:Nat} {o:Bool} {ks:List (List UInt8)} {l:List V} {t:List UInt8} (h:SR d o ks l t):Rows d o ks l t:=by
 induction h with
 | nil d o=> exact .nil d o
 | one hv hd _ hn hu ih=> exact .one hv hd ih hn (fun h=> (hu h).nodup)
 | more hv hd _ hn hu _ ih1 ih2=> exact .more hv hd ih1 hn (fun h=> (hu h).nodup) ih2
structure SOne (d:Nat) (o:Bool) (v:V) (l:List V) (t:List UInt8):Prop where
 own:Own v o
 deep:d < 50
 kids:∃ks,SR (d+1) (isObj v) ks l t∧(ks.length:Int)=v.count∧(isObj v=true→Rise ks)
theorem SOne.sr {d:Nat} {o:Bool} {v:V} {l:List V} {t:List UInt8} (h:SOne d o v l t):SR d o [v.key] (v::l) (item o v t):=by
 obtain ⟨ks,h1,h2,h3⟩:=h.kids
 exact .one h.own h.deep h1 h2 h3
theorem SOne.one {d:Nat} {o:Bool} {v:V} {l:List V} {t:List UInt8} (h:SOne d o v l t):One d o v l t:=by
 obtain ⟨ks,h1,h2,h3⟩:=h.kids
 exact ⟨h.own,h.deep,ks,h1.rows,h2,fun h=> (h3 h).nodup⟩
inductive SParts (d:Nat) (o:Bool):List (List UInt8)→List (List V)→Prop
 | nil:SParts d o [] []
 | cons {v:V} {l:List V} {t:List UInt8} {ks:List (List UInt8)} {P:List (List V)} (h:SOne d o v l t) (r:SParts d o ks P):SParts d o (v.key::ks) ((v::l)::P)
theorem SParts.parts {d:Nat} {o:Bool} {ks:List (List UInt8)} {P:List (List V)} (h:SParts d o ks P):Parts d o ks P:=by
 induction h with
 | nil=> exact .nil
 | cons h _ ih=> exact .cons h.one ih
theorem SParts.sr {d:Nat} {o:Bool} {ks:List (List UInt8)} {P:List (List V)} (h:SParts d o ks P):∃t,SR d o ks P.flatten t:=by
 induction h with
 | nil=> exact ⟨[], .nil _ _⟩
 | @cons v l t ks P h r ih=>
  obtain ⟨t2,ih⟩:=ih
  obtain ⟨ks0,q1,q2,q3⟩:=h.kids
  rw [List.flatten_cons];match ks,ih with
  | [],ih=>
   obtain ⟨e,_⟩:=qay ih.rows rfl
   rw [e,List.append_nil];exact ⟨_,h.sr⟩
  | a::b,ih=> exact ⟨_, .more h.own h.deep q1 q2 q3 ih⟩
theorem SParts.keys {d:Nat} {o:Bool} {ks:List (List UInt8)} {P:List (List V)} (h:SParts d o ks P):P.map keyOf=ks:=by
 induction h with
 | nil=> rfl
 | cons _ _ ih=> rw [List.map_cons,ih];rfl
theorem SParts.perm {d:Nat} {o:Bool} {P Q:List (List V)} (h:P.Perm Q):∀ {ks:List (List UInt8)},SParts d o ks P→∃ks2,ks.Perm ks2∧SParts d o ks2 Q:=by
 induction h with
 | nil=> exact fun h=> ⟨_, .refl _,h⟩
 | cons x _ ih=>
  intro ks h;cases h with
  | cons h r=>
   obtain ⟨k2,h1,h2⟩:=ih r
   exact ⟨_,h1.cons _, .cons h h2⟩
 | swap x y l=>
  intro ks h;cases h with
  | cons h r=>
   cases r with
   | cons h2 r=> exact ⟨_, .swap _ _ _, .cons h2 (.cons h r)⟩
 | trans _ _ ih1 ih2=>
  intro ks h;obtain ⟨k2,h1,h2⟩:=ih1 h
  obtain ⟨k3,h3,h4⟩:=ih2 h2
  exact ⟨k3,h1.trans h3,h4⟩
theorem qzq {d:Nat} {o:Bool} {ks:List (List UInt8)} {l:List V} {t:List UInt8} (h:SR d o ks l t):∃P,P.flatten=l∧SParts d o ks P:=by
 induction h with
 | nil d o=> exact ⟨[],rfl, .nil⟩
 | @one d o v ks l t hv hd hk hn hu _=>
  refine ⟨[v::l], ?_, .cons ⟨hv,hd,ks,hk,hn,hu⟩ .nil⟩
  rw [List.flatten_cons,List.flatten_nil,List.append_nil]
 | @more d o v ks l t k2 ks2 l2 t2 hv hd hk hn hu hr _ ih=>
  obtain ⟨P,h1,h2⟩:=ih
  exact ⟨(v::l)::P,by rw [List.flatten_cons,h1,List.cons_append], .cons ⟨hv,hd,ks,hk,hn,hu⟩ h2⟩
theorem Parts.read {d:Nat} {o:Bool} {ks:List (List UInt8)} {P:List (List V)} (h:Parts d o ks P):∀x,partsF ks.length (P.flatten++x)=P:=by
 induction h with
 | nil=> exact fun x=> rfl
 | @cons v l t ks P h r ih=>
  intro x;have e:((v::l)::P).flatten++x=v::(l++(P.flatten++x)):=by rw [List.flatten_cons,List.append_assoc,List.cons_append]
  rw [List.length_cons,partsF,e,qe1 h];dsimp only
  rw [List.take_succ_cons,List.take_left,List.drop_succ_cons,List.drop_left,ih x]
def RiseP (P:List (List V)):Prop:=P.Pairwise fun a b=> ltF (keyOf a) (keyOf b)=true
theorem RiseP.keys {P:List (List V)} (h:RiseP P):Rise (P.map keyOf):=List.pairwise_map.2 h
theorem qou (p:List V):∀P:List (List V),RiseP P→(∀q∈P,keyOf q≠keyOf p)→RiseP (insF p P)
 | [],_,_=> List.pairwise_cons.2 ⟨fun q hq=> absurd hq List.not_mem_nil,List.Pairwise.nil⟩
 | q::r,h,hn=> by
  obtain ⟨h1,h2⟩:=List.pairwise_cons.1 h
  rw [insF];split
  next hl=>
   refine List.pairwise_cons.2 ⟨fun x hx=> ?_,qou p r h2 (fun q hq=> hn q (List.mem_cons_of_mem _ hq))⟩
   rcases List.mem_cons.1 ((qj5 p r).mem_iff.2 hx)with rfl | hx
   ·exact hl
   ·exact h1 x hx
  next hl=>
   have hp:ltF (keyOf p) (keyOf q)=true:=qfh _ _ (hn q List.mem_cons_self) (Bool.not_eq_true _▸hl)
   refine List.pairwise_cons.2 ⟨fun x hx=> ?_,h⟩
   rcases List.mem_cons.1 hx with rfl | hx
   ·exact hp
   ·exact qc5 _ _ _ hp (h1 x hx)
theorem qc1:∀P:List (List V),(P.map keyOf).Nodup→RiseP (ordF P)
 | [],_=> .nil
 | p::r,h=> by
  rw [List.map_cons,List.nodup_cons]at h
  rw [ordF];refine qou p _ (qc1 r h.2) fun q hq e=> h.1 ?_
  rw [←e];exact List.mem_map.2 ⟨q,(qa1 r).mem_iff.2 hq,rfl⟩
theorem qqt:∀P:List (List V),RiseP P→ordF P=P
 | [],_=> rfl
 | p::r,h=> by
  obtain ⟨h1,h2⟩:=List.pairwise_cons.1 h
  rw [ordF,qqt r h2];match r,h1 with
  | [],_=> rfl
  | q::s,h1=>
   have hp:=h1 q List.mem_cons_self
   rw [insF,if_neg (fun e=> by
    have:=qc5 _ _ _ hp e
    rw [lt_irrefl]at this
    cases this)]
theorem qgv:∀(f d:Nat) (o:Bool) (v:V) (l:List V) (t:List UInt8),l.length+1≤f→One d o v l t→∃l' t',sortF f (v::l)=v::l'∧SOne d o v l' t'∧l'.length=l.length:=by
 intro f
 induction f with
 | zero=> intro d o v l t h;omega
 | succ f ih=>
  intro d o v l t hf h;obtain ⟨ks,q1,q2,q3⟩:=h.kids
  obtain ⟨P,hP,hparts,hread⟩:=qcd _ _ _ q1
  have hr:=hread []
  rw [List.append_nil]at hr
  have hc:v.count.toNat=ks.length:=by omega
  have each:∀ {ks:List (List UInt8)} {P:List (List V)},Parts (d+1) (isObj v) ks P→P.flatten.length≤f→SParts (d+1) (isObj v) ks (P.map (sortF f))∧(P.map (sortF f)).flatten.length=P.flatten.length:=fun h=> by
   induction h with
   | nil=> exact fun _=> ⟨.nil,rfl⟩
   | @cons v2 l2 t2 ks P h r ih2=>
    intro hl;rw [List.flatten_cons,List.length_append,List.length_cons]at hl
    obtain ⟨l',t',e1,e2,e3⟩:=ih _ _ _ _ _ (by omega) h
    obtain ⟨i1,i2⟩:=ih2 (by omega)
    rw [List.map_cons,e1];refine ⟨.cons e2 i1, ?_⟩
    rw [List.flatten_cons,List.flatten_cons,List.length_append,List.length_append,i2,List.length_cons,List.length_cons,e3]
  obtain ⟨s1,s2⟩:=each hparts (by rw [hP];omega)
  rw [hP]at s2
  have hs:sortF (f+1) (v::l)=v::((if isObj v=true then ordF else id) (P.map (sortF f))).flatten:=by rw [sortF,hc,hr]
  by_cases ho:isObj v=true
  ·rw [if_pos ho]at hs
   have hp:=qa1 (P.map (sortF f))
   obtain ⟨ks2,p1,p2⟩:=SParts.perm hp s1
   have hrise:Rise ks2:=by
    have:=(qc1 (P.map (sortF f)) (by rw [s1.keys];exact q3 ho)).keys
    rwa [p2.keys]at this
   obtain ⟨t',ht⟩:=p2.sr
   refine ⟨_,t',hs,⟨h.own,h.deep,ks2,ht, ?_,fun _=> hrise⟩, ?_⟩
   ·rw [←p1.length_eq]
    exact q2
   ·rw [←s2]
    exact hp.flatten.length_eq.symm
  ·rw [if_neg ho]at hs
   obtain ⟨t',ht⟩:=s1.sr
   exact ⟨_,t',hs,⟨h.own,h.deep,ks,ht,q2,fun e=> absurd e ho⟩,s2⟩
theorem qwt:∀(f d:Nat) (o:Bool) (v:V) (l:List V) (t:List UInt8),l.length+1≤f→SOne d o v l t→sortF f (v::l)=v::l:=by
 intro f
 induction f with
 | zero=> intro d o v l t h;omega
 | succ f ih=>
  intro d o v l t hf h;obtain ⟨ks,q1,q2,q3⟩:=h.kids
  obtain ⟨P,hP,hparts⟩:=qzq q1
  have hr:=hparts.parts.read []
  rw [List.append_nil,hP]at hr
  have hc:v.count.toNat=ks.length:=by omega
  have each:∀ {ks:List (List UInt8)} {P:List (List V)},SParts (d+1) (isObj v) ks P→P.flatten.length≤f→P.map (sortF f)=P:=fun h=> by
   induction h with
   | nil=> exact fun _=> rfl
   | @cons v2 l2 t2 ks P h r ih2=>
    intro hl;rw [List.flatten_cons,List.length_append,List.length_cons]at hl
    rw [List.map_cons,ih _ _ _ _ _ (by omega) h,ih2 (by omega)]
  rw [sortF,hc,hr,each hparts (by rw [hP];omega)]
  by_cases ho:isObj v=true
  ·rw [if_pos ho,qqt P,hP]
   have:=q3 ho
   rw [←hparts.keys]at this
   exact List.pairwise_map.1 this
  ·rw [if_neg ho]
   show v::P.flatten=_
   rw [hP]
theorem qpj {l:List V} {t:List UInt8} (h:Row l t):∃t',Row (sortF l.length l) t'∧(sortF l.length l).length=l.length∧SR 0 false [[]] (sortF l.length l) t'∧sortF l.length (sortF l.length l)=sortF l.length l:=by
 obtain ⟨v,l1,l2,t1,t2,e,hkey,hone,hr,_⟩:=qbr h.2
 obtain ⟨rfl,_⟩:=qay hr rfl
 rw [List.append_nil]at e
 subst e
 obtain ⟨l',t',e1,e2,e3⟩:=qgv (v::l1).length 0 false v l1 t1 (Nat.le_refl _) hone
 rw [e1]
 have hsr:=e2.sr
 rw [hkey]at hsr
 have hl:=h.1
 rw [List.length_cons]at hl
 refine ⟨_,⟨by rw [List.length_cons];omega,hsr.rows⟩,by rw [List.length_cons,List.length_cons,e3],hsr, ?_⟩
 exact qwt _ 0 false v l' t' (by rw [List.length_cons,e3];exact Nat.le_refl _) e2
end Js
end Go.Proofs.YtgmangikcfakgaaGreatDoor
namespace Go.Proofs.YtgmangikcfakgaaGreatDoor
open Go
namespace Js
open Jt
theorem qr5 {d:Nat} {o:Bool} {ks:List (List UInt8)} {l:List V} {t:List UInt8} (h:Rows d o ks l t):∀i,i < l.length→∃d' o' v l1 t1 x,l.drop i=v::(l1++x)∧One d' o' v l1 t1:=by
 induction h with
 | nil d o=> exact fun i h=> absurd h (Nat.not_lt_zero _)
 | @one d o v ks l t hv hd hk hn hu ih=>
  intro i hi;cases i with
  | zero=> exact ⟨d,o,v,l,t,[],by rw [List.append_nil];rfl,hv,hd,ks,hk,hn,hu⟩
  | succ i=>
   rw [List.length_cons]at hi
   obtain ⟨d',o',v',l1,t1,x,h1,h2⟩:=ih i (by omega)
   exact ⟨d',o',v',l1,t1,x,h1,h2⟩
 | @more d o v ks l t k2 ks2 l2 t2 hv hd hk hn hu hr ih1 ih2=>
  intro i hi;cases i with
  | zero=> exact ⟨d,o,v,l,t,l2,rfl,hv,hd,ks,hk,hn,hu⟩
  | succ i=>
   rw [List.length_cons,List.length_append]at hi
   by_cases hl:i < l.length
   ·obtain ⟨d',o',v',l1,t1,x,h1,h2⟩:=ih1 i hl
    refine ⟨d',o',v',l1,t1,x++l2, ?_,h2⟩
    rw [List.drop_succ_cons,List.drop_append_of_le_length (Nat.le_of_lt hl),h1,List.cons_append,List.append_assoc]
   ·obtain ⟨d',o',v',l1,t1,x,h1,h2⟩:=ih2 (i - l.length) (by omega)
    refine ⟨d',o',v',l1,t1,x, ?_,h2⟩
    rw [List.drop_succ_cons,List.drop_append,List.drop_eq_nil_of_le (by omega),List.nil_append];exact h1
theorem qyt {d:Nat} {o:Bool} {ks:List (List UInt8)} {P:List (List V)} (h:Parts d o ks P):∀j,j < ks.length→∃v l1 t1 x,P.flatten.drop (P.take j).flatten.length=v::(l1++x)∧One d o v l1 t1∧ks[j]? =some v.key∧(P.take (j+1)).flatten.length=(P.take j).flatten.length+(l1.length+1):=by
 induction h with
 | nil=> exact fun j h=> absurd h (Nat.not_lt_zero _)
 | @cons v l t ks P h r ih=>
  intro j hj;cases j with
  | zero=>
   refine ⟨v,l,t,P.flatten, ?_,h,rfl, ?_⟩
   ·rw [List.take_zero,List.flatten_nil,List.length_nil,List.drop_zero,List.flatten_cons,List.cons_append]
   ·rw [List.take_succ_cons,List.take_zero,List.take_zero,List.flatten_cons,List.flatten_nil,List.append_nil,List.length_cons,List.length_nil,Nat.zero_add]
  | succ j=>
   rw [List.length_cons]at hj
   obtain ⟨v2,l1,t1,x,h1,h2,h3,h4⟩:=ih j (by omega)
   refine ⟨v2,l1,t1,x, ?_,h2,h3, ?_⟩
   ·rw [List.take_succ_cons,List.flatten_cons,List.flatten_cons,List.length_append,List.drop_append,List.drop_eq_nil_of_le (Nat.le_add_right _ _),List.nil_append,Nat.add_sub_cancel_left]
    exact h1
   ·rw [List.take_succ_cons,List.flatten_cons,List.length_append,h4,List.take_succ_cons,List.flatten_cons,List.length_append,Nat.add_assoc]
theorem Rise.at_ {ks:List (List UInt8)} (h:Rise ks) {j:Nat} {a b:List UInt8} (ha:ks[j]? =some a) (hb:ks[j+1]? =some b):ltF a b=true:=by
 obtain ⟨h1,rfl⟩:=List.getElem?_eq_some_iff.1 ha
 obtain ⟨h2,rfl⟩:=List.getElem?_eq_some_iff.1 hb
 exact List.pairwise_iff_getElem.1 h j (j+1) h1 h2 (Nat.lt_succ_self j)
end Js
end Go.Proofs.YtgmangikcfakgaaGreatDoor
namespace Go.Proofs.YtgmangikcfakgaaGreatDoor
open Go
namespace Js
open Jt
def ownB (v:V) (o:Bool):Bool:=
 (o || v.key.isEmpty) && validF v.key &&
 (if v.kind=0∨v.kind=1∨v.kind=2 then v.text.isEmpty && decide (v.count=0)
  else if v.kind=3 then !v.text.isEmpty && decide (numF v.text=v.text.length) && decide (v.count=0)
  else if v.kind=4 then validF v.text && decide (v.count=0)
  else if v.kind=5∨v.kind=6 then v.text.isEmpty && decide (0≤v.count) else false)
theorem qcs (l:List UInt8):l.isEmpty=true↔l=[]:=List.isEmpty_iff
theorem qh0 (v:V) (o:Bool):ownB v o=true↔Own v o:=by
 unfold ownB Own
 rw [Bool.and_eq_true,Bool.and_eq_true,Bool.or_eq_true,qcs,and_assoc]
 refine and_congr ?_ (and_congr Iff.rfl ?_)
 ·cases o with
  | true=> exact ⟨fun _ h=> (by cases h),fun _=> .inl rfl⟩
  | false=> exact ⟨fun h _=> h.resolve_left (by decide),fun h=> .inr (h rfl)⟩
 ·by_cases h0:v.kind=0∨v.kind=1∨v.kind=2
  ·rw [if_pos h0,Bool.and_eq_true,qcs,decide_eq_true_eq]
   refine ⟨fun h=> .inl ⟨h0,h⟩,fun h=> ?_⟩
   rcases h with h | h | h | h
   ·exact h.2
   ·omega
   ·omega
   ·omega
  rw [if_neg h0];by_cases h3:v.kind=3
  ·rw [if_pos h3,Bool.and_eq_true,Bool.and_eq_true,decide_eq_true_eq,decide_eq_true_eq,Bool.not_eq_true',and_assoc]
   have he:v.text.isEmpty=false↔v.text≠[]:=by
    rw [←Bool.not_eq_true,qcs]
   rw [he];refine ⟨fun h=> .inr (.inl ⟨h3,h⟩),fun h=> ?_⟩
   rcases h with h | h | h | h
   ·exact absurd h.1 h0
   ·exact h.2
   ·omega
   ·omega
  rw [if_neg h3];by_cases h4:v.kind=4
  ·rw [if_pos h4,Bool.and_eq_true,decide_eq_true_eq]
   refine ⟨fun h=> .inr (.inr (.inl ⟨h4,h⟩)),fun h=> ?_⟩
   rcases h with h | h | h | h
   ·exact absurd h.1 h0
   ·exact absurd h.1 h3
   ·exact h.2
   ·omega
  rw [if_neg h4];by_cases h5:v.kind=5∨v.kind=6
  ·rw [if_pos h5,Bool.and_eq_true,qcs,decide_eq_true_eq]
   refine ⟨fun h=> .inr (.inr (.inr ⟨h5,h⟩)),fun h=> ?_⟩
   rcases h with h | h | h | h
   ·exact absurd h.1 h0
   ·exact absurd h.1 h3
   ·exact absurd h.1 h4
   ·exact h.2
  ·rw [if_neg h5]
   refine ⟨fun h=> (by cases h),fun h=> ?_⟩
   rcases h with h | h | h | h
   ·exact absurd h.1 h0
   ·exact absurd h.1 h3
   ·exact absurd h.1 h4
   ·exact absurd h.1 h5
def kidsR (R:List V→Option Nat) (o:Bool):Nat→List (List UInt8)→List V→Option Nat
 | 0,_,_=> some 0
 | _+1,_,[]=> none
 | n+1,names,v::r=> if o=true∧v.key∈names then none else (R (v::r)).bind fun m=> (kidsR R o n (v.key::names) ((v::r).drop m)).map (·+m)
def rightR:Nat→Bool→List V→Option Nat
 | 0,_,_=> none
 | _+1,_,[]=> none
 | m+1,o,v::r=> if ownB v o=true then (kidsR (rightR m (isObj v)) (isObj v) v.count.toNat [] r).map (·+1) else none
theorem qrc {R:List V→Option Nat} {d:Nat} {o:Bool} (hR:∀l n,R l=some n→∃v l1 t1 x,l=v::(l1++x)∧n=l1.length+1∧One d o v l1 t1):∀(n:Nat) (names:List (List UInt8)) (l:List V) (k:Nat),kidsR R o n names l=some k→
  ∃ks l1 x t,l=l1++x∧Rows d o ks l1 t∧ks.length=n∧l1.length=k∧(o=true→ks.Nodup∧∀a∈ks,a∉names):=by
 intro n
 induction n with
 | zero=>
  intro names l k h;cases h
  exact ⟨[],[],l,[],rfl, .nil _ _,rfl,rfl,fun _=> ⟨List.nodup_nil,fun a ha=> absurd ha List.not_mem_nil⟩⟩
 | succ n ih=>
  intro names l k h;match l with
  | []=> cases h
  | v::r=>
   rw [kidsR]at h
   split at h
   ·cases h
   next hno=>
    obtain ⟨m,hm,h⟩:=Option.bind_eq_some_iff.1 h
    obtain ⟨j,hj,rfl⟩:=Option.map_eq_some_iff.1 h
    obtain ⟨v2,l1,t1,x,e,rfl,hone⟩:=hR _ _ hm
    obtain ⟨rfl,rfl⟩:=List.cons.inj e
    rw [List.drop_succ_cons,List.drop_left]at hj
    obtain ⟨ks,l2,y,t2,rfl,k2,k3,k4,k5⟩:=ih _ _ _ hj
    obtain ⟨ks0,q1,q2,q3⟩:=hone.kids
    have hkeys:o=true→(v.key::ks).Nodup∧∀a∈v.key::ks,a∉names:=fun ho=> by
     obtain ⟨n1,n2⟩:=k5 ho
     refine ⟨List.nodup_cons.2 ⟨fun hm=> n2 _ hm List.mem_cons_self,n1⟩,fun a ha=> ?_⟩
     rcases List.mem_cons.1 ha with rfl | ha
     ·exact fun hm=> hno ⟨ho,hm⟩
     ·exact fun hm=> n2 _ ha (List.mem_cons_of_mem _ hm)
    match ks,k2 with
    | [],k2=>
     obtain ⟨rfl,_⟩:=qay k2 rfl
     refine ⟨[v.key],v::l1,y,_,by rw [List.cons_append];rfl,hone.rows,by rw [←k3];rfl, ?_,hkeys⟩
     rw [←k4,List.length_cons,List.length_nil,Nat.zero_add]
    | a::b,k2=>
     refine ⟨v.key::a::b,v::(l1++l2),y,_,by rw [List.cons_append,List.append_assoc], .more hone.own hone.deep q1 q2 q3 k2,by rw [←k3];rfl, ?_,hkeys⟩
     rw [←k4,List.length_cons,List.length_append];omega
theorem quk {R:List V→Option Nat} {d:Nat} {o:Bool} (hR:∀v l1 t1 x,One d o v l1 t1→R (v::(l1++x))=some (l1.length+1)):∀(ks names:List (List UInt8)) (l:List V) (t:List UInt8) (x:List V),Rows d o ks l t→(o=true→ks.Nodup∧∀a∈ks,a∉names)→kidsR R o ks.length names (l++x)=some l.length:=by
 intro ks
 induction ks with
 | nil=>
  intro names l t x h _;obtain ⟨rfl,_⟩:=qay h rfl
  rw [List.length_nil,kidsR];rfl
 | cons k ks ih=>
  intro names l t x h hno;obtain ⟨v,l1,l2,t1,t2,rfl,rfl,hone,hr,_⟩:=qbr h
  have e:v::(l1++l2)++x=v::(l1++(l2++x)):=by rw [List.cons_append,List.append_assoc]
  have hn:¬(o=true∧v.key∈names):=fun ⟨h1,h2⟩=> (hno h1).2 _ List.mem_cons_self h2
  have:=ih (v.key::names) l2 t2 x hr (fun ho=> by
   obtain ⟨n1,n2⟩:=hno ho
   obtain ⟨n3,n4⟩:=List.nodup_cons.1 n1
   refine ⟨n4,fun a ha hm=> ?_⟩
   rcases List.mem_cons.1 hm with rfl | hm
   ·exact n3 ha
   ·exact n2 a (List.mem_cons_of_mem _ ha) hm)
  rw [List.length_cons,e,kidsR,if_neg hn,hR _ _ _ _ hone];show ((kidsR R o ks.length (v.key::names) ((v::(l1++(l2++x))).drop (l1.length+1))).map (·+(l1.length+1)))=_
  rw [List.drop_succ_cons,List.drop_left,this];show some (l2.length+(l1.length+1))=some (v::(l1++l2)).length
  rw [List.length_cons,List.length_append];congr 1
  omega
theorem qjk:∀(m d:Nat) (o:Bool) (l:List V) (n:Nat),d+m=50→rightR m o l=some n→∃v l1 t1 x,l=v::(l1++x)∧n=l1.length+1∧One d o v l1 t1:=by
 intro m
 induction m with
 | zero=> intro d o l n _ h;cases h
 | succ m ih=>
  intro d o l n hd h;match l with
  | []=> cases h
  | v::r=>
   rw [rightR]at h
   split at h
   next hown=>
    obtain ⟨k,hk,rfl⟩:=Option.map_eq_some_iff.1 h
    obtain ⟨ks,l1,x,t,rfl,q1,q2,q3,q4⟩:=qrc (fun l n h=> ih (d+1) (isObj v) l n (by omega) h) _ _ _ _ hk
    have hv:=(qh0 v o).1 hown
    have hc:0≤v.count:=by
     obtain ⟨_,_,h⟩:=hv
     rcases h with h | h | h | h
     ·omega
     ·omega
     ·omega
     ·exact h.2.2
    exact ⟨v,l1,t,x,rfl,by rw [q3],hv,by omega,ks,q1,by omega,fun h=> (q4 h).1⟩
   ·cases h
theorem quw:∀(m d:Nat) (o:Bool) (v:V) (l1:List V) (t1:List UInt8) (x:List V),d+m=50→One d o v l1 t1→rightR m o (v::(l1++x))=some (l1.length+1):=by
 intro m
 induction m with
 | zero=>
  intro d o v l1 t1 x hd h;have:=h.deep
  omega
 | succ m ih=>
  intro d o v l1 t1 x hd h;obtain ⟨ks,q1,q2,q3⟩:=h.kids
  have:=quk (R:=rightR m (isObj v)) (fun v2 l2 t2 x2 h2=> ih (d+1) (isObj v) v2 l2 t2 x2 (by omega) h2) ks [] l1 t1 x q1 (fun h=> ⟨q3 h,fun a _ hm=> by cases hm⟩)
  rw [rightR,if_pos ((qh0 v o).2 h.own),show v.count.toNat=ks.length from by omega,this];rfl
def rightF (l:List V):Bool:=decide (l.length≤5000) && decide (rightR 50 false l=some l.length)
theorem qyq (l:List V):rightF l=true↔∃t,Row l t:=by
 unfold rightF
 rw [Bool.and_eq_true,decide_eq_true_eq,decide_eq_true_eq]
 constructor
 ·rintro ⟨h1,h2⟩
  obtain ⟨v,l1,t1,x,rfl,h3,h4⟩:=qjk 50 0 false l _ rfl h2
  rw [List.length_cons,List.length_append]at h3
  have hx:x=[]:=List.eq_nil_of_length_eq_zero (by omega)
  subst hx;have hr:=h4.rows
  rw [h4.own.1 rfl]at hr
  rw [List.append_nil]at h1 ⊢
  exact ⟨_,h1,hr⟩
 ·rintro ⟨t,h1,h2⟩
  refine ⟨h1, ?_⟩
  obtain ⟨v,l1,l2,t1,t2,rfl,_,hone,hr,_⟩:=qbr h2
  obtain ⟨rfl,_⟩:=qay hr rfl
  have:=quw 50 0 false v l1 t1 [] rfl hone
  rw [this,List.append_nil,List.length_cons]
end Js
end Go.Proofs.YtgmangikcfakgaaGreatDoor
namespace Go.Proofs.YtgmangikcfakgaaGreatDoor
open Go
namespace Js
open Jt
theorem qy1 {a b:List UInt8} (h:ltF a b=true):ltF b a=false:=by
 cases e:ltF b a with
 | false=> rfl
 | true=>
  have:=qc5 _ _ _ h e
  rw [lt_irrefl]at this
  cases this
theorem qgj:∀(P Q:List (List V)),P.Perm Q→RiseP P→RiseP Q→P=Q
 | [],Q,h,_,_=> (List.Perm.nil_eq h)
 | p::r,[],h,_,_=> absurd h.length_eq (by simp)
 | p::r,q::s,h,hp,hq=> by
  obtain ⟨p1,p2⟩:=List.pairwise_cons.1 hp
  obtain ⟨q1,q2⟩:=List.pairwise_cons.1 hq
  have e:p=q:=by
   rcases List.mem_cons.1 (h.mem_iff.1 List.mem_cons_self)with e | hm
   ·exact e
   rcases List.mem_cons.1 (h.mem_iff.2 List.mem_cons_self)with e | hm2
   ·exact e.symm
   have:=qy1 (p1 q hm2)
   rw [q1 p hm]at this
   cases this
  subst e;rw [qgj r s (List.Perm.cons_inv h) p2 q2]
theorem qze {A B:List (List V)} {p:List V} (hn:((A++p::B).map keyOf).Nodup) (h:∀q∈A++B,ltF (keyOf p) (keyOf q)=true):ordF (A++p::B)=p::ordF (A++B):=by
 have hm:(A++p::B).Perm (p::(A++B)):=List.perm_middle
 have hn2:((p::(A++B)).map keyOf).Nodup:=(hm.map keyOf).nodup_iff.1 hn
 rw [List.map_cons,List.nodup_cons]at hn2
 refine qgj _ _ ((qa1 _).symm.trans (hm.trans ((qa1 _).cons p))) (qc1 _ hn) ?_
 refine List.pairwise_cons.2 ⟨fun q hq=> h q ((qa1 _).mem_iff.2 hq),qc1 _ hn2.2⟩
theorem qw0:∀(f g d:Nat) (o:Bool) (v:V) (l:List V) (t:List UInt8),l.length+1≤f→l.length+1≤g→One d o v l t→sortF f (v::l)=sortF g (v::l):=by
 intro f
 induction f with
 | zero=> intro g d o v l t h;omega
 | succ f ih=>
  intro g d o v l t hf hg h;obtain ⟨g,rfl⟩:∃g2,g=g2+1:=⟨g - 1,by omega⟩
  obtain ⟨ks,q1,q2,q3⟩:=h.kids
  obtain ⟨P,hP,hparts,hread⟩:=qcd _ _ _ q1
  have hr:=hread []
  rw [List.append_nil]at hr
  have hc:v.count.toNat=ks.length:=by omega
  have each:∀ {ks:List (List UInt8)} {P:List (List V)},Parts (d+1) (isObj v) ks P→P.flatten.length≤f→P.flatten.length≤g→P.map (sortF f)=P.map (sortF g):=fun h=> by
   induction h with
   | nil=> exact fun _ _=> rfl
   | @cons v2 l2 t2 ks P h r ih2=>
    intro hl hl2;rw [List.flatten_cons,List.length_append,List.length_cons]at hl hl2
    rw [List.map_cons,List.map_cons,ih g _ _ _ _ _ (by omega) (by omega) h,ih2 (by omega) (by omega)]
  rw [sortF,sortF,hc,hr,each hparts (by rw [hP];omega) (by rw [hP];omega)]
theorem qy7 {f d:Nat} {o:Bool} {v:V} {l:List V} {t:List UInt8} (hf:l.length+1≤f) (h:One d o v l t):keyOf (sortF f (v::l))=v.key:=by
 obtain ⟨l',t',e,_⟩:=qgv f d o v l t hf h
 rw [e]
 rfl
end Js
end Go.Proofs.YtgmangikcfakgaaGreatDoor
namespace Go.Proofs.YtgmangikcfakgaaGreatDoor
open Go
namespace Js
open Jt
theorem quy {a:UInt8} (h2:a.toNat < 128):validF [a]=true:=by
 have hc:charF [a]=(a.toNat,1):=by rw [charF,if_pos h2]
 rw [validF,hc]
 dsimp only
 rw [if_neg (by decide),List.drop_nil,qa8]
def s1:List UInt8:=[32,123,34,98,34,32,58,32,91,49,44,32,110,117,108,108,93,44,32,34,97,34,58,34,120,34,125,10]
def l1:List V:=[⟨6,[],[],2⟩,⟨5,[98],[],2⟩,⟨3,[],[49],0⟩,⟨0,[],[],0⟩,⟨4,[97],[120],0⟩]
def s2:List UInt8:=[123,34,97,34,58,49,44,34,97,34,58,50,125]
def s3:List UInt8:=[91,49,44,93]
def t1:List UInt8:=[123,34,98,34,58,91,49,44,110,117,108,108,93,44,34,97,34,58,34,120,34,125]
def t2:List UInt8:=[123,34,97,34,58,34,120,34,44,34,98,34,58,91,49,44,110,117,108,108,93,125]
def l2:List V:=[⟨6,[],[],2⟩,⟨4,[97],[120],0⟩,⟨5,[98],[],2⟩,⟨3,[],[49],0⟩,⟨0,[],[],0⟩]
end Js
end Go.Proofs.YtgmangikcfakgaaGreatDoor
namespace Go.Proofs.YtgmangikcfakgaaGreatDoor
open Go
namespace Js
open Jt
def grp (v:V):Bool:=decide (v.kind=5∨v.kind=6)
def endP:List V→Nat→Option Nat
 | _,0=> some 0
 | [],_+1=> none
 | v::l,n+1=> if v.count < 0 then none else (endP l (if grp v=true then v.count.toNat+n else n)).map (·+1)
theorem qb0 (l:List V):endP l 0=some 0:=by cases l <;> rfl
theorem qbz:∀(l:List V) (w n:Nat),endP l w=some n→w≤n∧n≤l.length:=by
 intro l
 induction l with
 | nil=>
  intro w n h;cases w with
  | zero=> cases h;exact ⟨Nat.le_refl _,Nat.le_refl _⟩
  | succ w=> cases h
 | cons v l ih=>
  intro w n h;cases w with
  | zero=> cases h;exact ⟨Nat.le_refl _,Nat.zero_le _⟩
  | succ w=>
   rw [endP]at h
   split at h
   ·cases h
   ·obtain ⟨k,hk,rfl⟩:=Option.map_eq_some_iff.1 h
    obtain ⟨h1,h2⟩:=ih _ _ hk
    rw [List.length_cons];refine ⟨?_,by omega⟩
    split at h1 <;> omega
theorem qxf {l:List V} {w:Nat} (h:l.length < w):endP l w=none:=by
 cases e:endP l w with
 | none=> rfl
 | some n=>
  have:=qbz _ _ _ e
  omega
theorem qow:∀(l:List V) (a b:Nat),endP l (a+b)=(endP l a).bind fun k=> (endP (l.drop k) b).map (k+·):=by
 intro l
 induction l with
 | nil=>
  intro a b;cases a with
  | zero=>
   rw [Nat.zero_add,qb0,Option.bind_some,List.drop_zero];cases endP [] b with
   | none=> rfl
   | some k=> rw [Option.map_some,Nat.zero_add]
  | succ a=>
   rw [show a+1+b=a+b+1 by omega];rfl
 | cons v l ih=>
  intro a b;cases a with
  | zero=>
   rw [Nat.zero_add,qb0,Option.bind_some,List.drop_zero];cases endP (v::l) b with
   | none=> rfl
   | some k=> rw [Option.map_some,Nat.zero_add]
  | succ a=>
   rw [show a+1+b=a+b+1 by omega,endP,endP];split
   ·rfl
   ·have e:(if grp v=true then v.count.toNat+(a+b) else a+b)=(if grp v=true then v.count.toNat+a else a)+b:=by split <;> omega
    rw [e,ih];cases endP l (if grp v=true then v.count.toNat+a else a)with
    | none=> rfl
    | some k=>
     rw [Option.bind_some,Option.map_some,Option.bind_some,List.drop_succ_cons,Option.map_map];congr 1
     funext x
     simp only [Function.comp]
     omega
theorem qnw:∀(l:List V) (w n:Nat) (x:List V),endP l w=some n→endP (l.take n++x) w=some n:=by
 intro l
 induction l with
 | nil=>
  intro w n x h;cases w with
  | zero=> cases h;rw [qb0]
  | succ w=> cases h
 | cons v l ih=>
  intro w n x h;cases w with
  | zero=> cases h;rw [qb0]
  | succ w=>
   rw [endP]at h
   split at h
   ·cases h
   next hc=>
    obtain ⟨k,hk,rfl⟩:=Option.map_eq_some_iff.1 h
    rw [List.take_succ_cons,List.cons_append,endP,if_neg hc,ih _ _ x hk];rfl
theorem qhk:∀(l:List V) (w n:Nat) (x:List V),endP l w=some n→endP (l++x) w=some n:=by
 intro l w n x h
 have:=qnw l w n (l.drop n++x) h
 rwa [←List.append_assoc,List.take_append_drop]at this
def partsP:Nat→List V→List (List V)
 | 0,_=> []
 | n+1,l=> match endP l 1 with
  | none=> []
  | some m=> l.take m::partsP n (l.drop m)
theorem qhn {l:List V} {n k:Nat} (h:endP l (n+1)=some k):∃a b,endP l 1=some a∧endP (l.drop a) n=some b∧k=a+b:=by
 rw [Nat.add_comm,qow]at h
 obtain ⟨a,h1,h2⟩:=Option.bind_eq_some_iff.1 h
 obtain ⟨b,h3,h4⟩:=Option.map_eq_some_iff.1 h2
 exact ⟨a,b,h1,h3,h4.symm⟩
theorem qed:∀(n:Nat) (l:List V) (k:Nat),endP l n=some k→(partsP n l).length=n∧(partsP n l).flatten=l.take k∧∀p∈partsP n l,endP p 1=some p.length:=by
 intro n
 induction n with
 | zero=>
  intro l k h;rw [qb0]at h
  cases h
  exact ⟨rfl,rfl,fun p hp=> absurd hp List.not_mem_nil⟩
 | succ n ih=>
  intro l k h;obtain ⟨a,b,h1,h2,rfl⟩:=qhn h
  obtain ⟨i1,i2,i3⟩:=ih _ _ h2
  have ha:=(qbz _ _ _ h1).2
  rw [partsP,h1];dsimp only
  refine ⟨by rw [List.length_cons,i1],by rw [List.flatten_cons,i2,List.take_add],fun p hp=> ?_⟩
  rcases List.mem_cons.1 hp with rfl | hp
  ·have:=qnw _ _ _ [] h1
   rw [List.append_nil]at this
   rw [this,List.length_take,Nat.min_eq_left ha]
  ·exact i3 p hp
theorem qv5:∀(n:Nat) (l:List V) (k:Nat),endP l n=some k→∀j (hj:j < (partsP n l).length),endP (l.drop ((partsP n l).take j).flatten.length) 1=some (partsP n l)[j].length∧(l.drop ((partsP n l).take j).flatten.length).take (partsP n l)[j].length=(partsP n l)[j]∧((partsP n l).take (j+1)).flatten.length=((partsP n l).take j).flatten.length+(partsP n l)[j].length:=by
 intro n
 induction n with
 | zero=> intro l k _ j hj;exact absurd hj (Nat.not_lt_zero _)
 | succ n ih=>
  intro l k h j hj;obtain ⟨a,b,h1,h2,rfl⟩:=qhn h
  have ha:=(qbz _ _ _ h1).2
  have e:partsP (n+1) l=l.take a::partsP n (l.drop a):=by rw [partsP,h1]
  have hl:(l.take a).length=a:=by rw [List.length_take,Nat.min_eq_left ha]
  revert hj
  rw [e];intro hj;cases j with
  | zero=>
   refine ⟨?_, ?_, ?_⟩
   ·rw [List.take_zero,List.flatten_nil,List.length_nil,List.drop_zero,h1,List.getElem_cons_zero,hl]
   ·rw [List.take_zero,List.flatten_nil,List.length_nil,List.drop_zero,List.getElem_cons_zero,hl]
   ·rw [List.take_succ_cons,List.take_zero,List.take_zero,List.flatten_cons,List.flatten_nil,List.append_nil,List.length_nil,Nat.zero_add,List.getElem_cons_zero]
  | succ j=>
   obtain ⟨i1,i2,i3⟩:=ih _ _ h2 j (by rw [List.length_cons]at hj;omega)
   have el:((l.take a::partsP n (l.drop a)).take (j+1)).flatten.length=a+((partsP n (l.drop a)).take j).flatten.length:=by rw [List.take_succ_cons,List.flatten_cons,List.length_append,hl]
   refine ⟨?_, ?_, ?_⟩
   ·rw [el,←List.drop_drop,List.getElem_cons_succ,i1]
   ·rw [el,←List.drop_drop,List.getElem_cons_succ,i2]
   ·rw [el,List.take_succ_cons,List.flatten_cons,List.length_append,hl,i3,List.getElem_cons_succ,Nat.add_assoc]
def valB (v:V):Bool:=
 if v.kind=0∨v.kind=1∨v.kind=2 then v.text.isEmpty && decide (v.count=0)
  else if v.kind=3 then !v.text.isEmpty && decide (numF v.text=v.text.length) && decide (v.count=0)
  else if v.kind=4 then validF v.text && decide (v.count=0)
  else if v.kind=5∨v.kind=6 then v.text.isEmpty else false
def keysB (P:List (List V)) (o:Bool):Bool:=if o=true then (P.map keyOf).all validF && decide (P.map keyOf).Nodup else (P.map keyOf).all fun k=> k.isEmpty
def ownParts (v:V) (r:List V):List (List V):=if grp v=true then partsP v.count.toNat r else []
def rightP:Nat→List V→Bool
 | 0,_=> false
 | _+1,[]=> false
 | m+1,v::r=> valB v && (keysB (ownParts v r) (isObj v) && (ownParts v r).all (rightP m))
def rightPF (l:List V):Bool:=decide (l.length≤5000) && decide (endP l 1=some l.length) && (keyOf l).isEmpty && rightP 50 l
theorem q0u {v:V} {o:Bool} (h:valB v=true) (hc:0≤v.count) (ho:o=false→v.key=[]) (hv:validF v.key=true):Own v o:=by
 rw [←qh0]
 unfold ownB
 unfold valB at h
 have h1:(o || v.key.isEmpty)=true:=by
  cases o with
  | true=> rfl
  | false=> rw [ho rfl];rfl
 rw [h1,hv,Bool.true_and,Bool.true_and]
 split
 next h0=> rw [if_pos h0]at h;exact h
 next h0=>
  rw [if_neg h0]at h
  split
  next h3=> rw [if_pos h3]at h;exact h
  next h3=>
   rw [if_neg h3]at h
   split
   next h4=> rw [if_pos h4]at h;exact h
   next h4=>
    rw [if_neg h4]at h
    split
    next h5=> rw [if_pos h5]at h;rw [h,decide_eq_true hc];rfl
    next h5=> rw [if_neg h5]at h;exact h
theorem qyg {v:V} {o:Bool} (h:Own v o):valB v=true:=by
 have h:=(qh0 v o).2 h
 unfold ownB at h
 rw [Bool.and_eq_true,Bool.and_eq_true]at h
 have h:=h.2
 unfold valB
 split
 next h0=> rw [if_pos h0]at h;exact h
 next h0=>
  rw [if_neg h0]at h
  split
  next h3=> rw [if_pos h3]at h;exact h
  next h3=>
   rw [if_neg h3]at h
   split
   next h4=> rw [if_pos h4]at h;exact h
   next h4=>
    rw [if_neg h4]at h
    split
    next h5=> rw [if_pos h5,Bool.and_eq_true]at h;exact h.1
    next h5=> rw [if_neg h5]at h;exact h
theorem qe2 {v:V} {o:Bool} (h:Own v o) (hg:grp v=false):v.count=0:=by
 obtain ⟨_,_,h | h | h | h⟩:=h
 ·exact h.2.2
 ·exact h.2.2.2
 ·exact h.2.2
 ·have:=of_decide_eq_false hg
  exact absurd h.1 this
theorem qh4 {v:V} {o:Bool} (h:Own v o):0≤v.count:=by
 obtain ⟨_,_,h | h | h | h⟩:=h
 ·rw [h.2.2];decide
 ·rw [h.2.2.2];decide
 ·rw [h.2.2];decide
 ·exact h.2.2
theorem qvm {d:Nat} {o:Bool} {ks:List (List UInt8)} {l:List V} {t:List UInt8} (h:Rows d o ks l t):∀(x:List V) (w:Nat),endP (l++x) (ks.length+w)=(endP x w).map (·+l.length):=by
 induction h with
 | nil d o=>
  intro x w;rw [List.nil_append,List.length_nil,Nat.zero_add];cases endP x w with
  | none=> rfl
  | some k=> rw [Option.map_some,List.length_nil,Nat.add_zero]
 | @one d o v ks l t hv hd hk hn hu ih=>
  intro x w;have hc:=qh4 hv
  have e:(if grp v=true then v.count.toNat+w else w)=ks.length+w:=by
   split
   ·omega
   next hg=>
    have:=qe2 hv (Bool.eq_false_iff.2 hg)
    omega
  rw [List.cons_append,List.length_singleton,Nat.add_comm 1 w,endP,if_neg (by omega),e,ih,Option.map_map,List.length_cons];congr 1
 | @more d o v ks l t k2 ks2 l2 t2 hv hd hk hn hu hr ih ih2=>
  intro x w;have hc:=qh4 hv
  have e:(if grp v=true then v.count.toNat+(ks2.length+1+w) else ks2.length+1+w)=ks.length+(ks2.length+1+w):=by
   split
   ·omega
   next hg=>
    have:=qe2 hv (Bool.eq_false_iff.2 hg)
    omega
  have e2:=ih2 x w
  rw [List.length_cons]at e2
  rw [List.cons_append,List.append_assoc,List.length_cons,List.length_cons,show ks2.length+1+1+w=ks2.length+1+w+1 by omega,endP,if_neg (by omega),e,ih,e2,Option.map_map,Option.map_map,List.length_cons,List.length_append];congr 1
  funext y
  simp only [Function.comp]
  omega
theorem qcr {d:Nat} {o:Bool} {v:V} {l:List V} {t:List UInt8} (h:One d o v l t) (x:List V):endP (v::(l++x)) 1=some (l.length+1):=by
 have:=qvm h.rows x 0
 rw [qb0]at this
 rw [List.cons_append]at this
 refine Eq.trans this ?_
 show some (0+(v::l).length)=_
 rw [Nat.zero_add,List.length_cons]
theorem qds {d:Nat} {o:Bool} {ks:List (List UInt8)} {P:List (List V)} (h:Parts d o ks P):∀x,partsP ks.length (P.flatten++x)=P:=by
 induction h with
 | nil=> exact fun _=> rfl
 | @cons v l t ks P h r ih=>
  intro x;rw [List.length_cons,partsP,List.flatten_cons,List.cons_append,List.cons_append,List.append_assoc,qcr h];dsimp only
  rw [List.take_succ_cons,List.take_left,List.drop_succ_cons,List.drop_left,ih x]
theorem qcw {d:Nat} {o:Bool} {ks:List (List UInt8)} {P:List (List V)} (h:Parts d o ks P):P.map keyOf=ks:=by
 induction h with
 | nil=> rfl
 | cons _ _ ih=> rw [List.map_cons,ih];rfl
theorem qcp {d:Nat} {o:Bool} {v:V} {l:List V} {t:List UInt8} (h:One d o v l t) (x:List V):∃ks,Parts (d+1) (isObj v) ks (ownParts v (l++x))∧(ks.length:Int)=v.count∧(isObj v=true→ks.Nodup)∧(ownParts v (l++x)).flatten=l∧(∃t2,Rows (d+1) (isObj v) ks l t2):=by
 obtain ⟨ks,q1,q2,q3⟩:=h.kids
 obtain ⟨P,hP,hp,hr⟩:=qcd _ _ _ q1
 have e:ownParts v (l++x)=P:=by
  unfold ownParts;split
  ·rw [show v.count.toNat=ks.length by omega,←hP,qds hp]
  next hg=>
   have:=qe2 h.own (Bool.eq_false_iff.2 hg)
   have hk:ks=[]:=List.eq_nil_of_length_eq_zero (by omega)
   subst hk;cases hp
   rfl
 exact ⟨ks,by rw [e];exact hp,q2,q3,by rw [e,hP],_,q1⟩
theorem qq1 {d:Nat} {o:Bool} {ks:List (List UInt8)} {P:List (List V)} (h:Parts d o ks P):ks.all validF=true∧(o=false→ks.all (fun k=> k.isEmpty)=true):=by
 induction h with
 | nil=> exact ⟨rfl,fun _=> rfl⟩
 | @cons v l t ks P h r ih=>
  rw [List.all_cons,List.all_cons];refine ⟨by rw [h.own.2.1,ih.1];rfl,fun ho=> ?_⟩
  rw [h.own.1 ho,ih.2 ho];rfl
theorem qui:∀(m d:Nat) (o:Bool) (v:V) (l:List V) (t:List UInt8),d+m=50→One d o v l t→rightP m (v::l)=true:=by
 intro m
 induction m with
 | zero=>
  intro d o v l t hd h;have:=h.deep
  omega
 | succ m ih=>
  intro d o v l t hd h;obtain ⟨ks,h1,h2,h3,h4,_⟩:=qcp h []
  rw [List.append_nil]at h1 h4
  have hv:=qq1 h1
  have hk:=qcw h1
  rw [rightP,qyg h.own,Bool.true_and,Bool.and_eq_true];constructor
  ·unfold keysB
   rw [hk];split
   next ho=> rw [hv.1,decide_eq_true (h3 ho)];rfl
   next ho=> exact hv.2 (Bool.eq_false_iff.2 ho)
  ·have each:∀ {ks:List (List UInt8)} {P:List (List V)},Parts (d+1) (isObj v) ks P→P.all (rightP m)=true:=fun h=> by
    induction h with
    | nil=> rfl
    | @cons v2 l2 t2 ks P h r ih2=> rw [List.all_cons,ih _ _ _ _ _ (by omega) h,ih2];rfl
   exact each h1
theorem qub:∀(m d:Nat) (o:Bool) (v:V) (l:List V),d+m=50→endP (v::l) 1=some (l.length+1)→(o=false→v.key=[])→validF v.key=true→rightP m (v::l)=true→∃t,One d o v l t:=by
 intro m
 induction m with
 | zero=>
  intro d o v l hd h1 h2 h3 h;cases h
 | succ m ih=>
  intro d o v l hd h1 h2 h3 h;rw [rightP,Bool.and_eq_true,Bool.and_eq_true]at h
  obtain ⟨ha,hb,hc⟩:=h
  rw [endP]at h1
  split at h1
  ·cases h1
  next hcount=>
   obtain ⟨k,hk,hkl⟩:=Option.map_eq_some_iff.1 h1
   have hkl:k=l.length:=by omega
   subst hkl;have hown:=q0u ha (by omega) h2 h3
   have hcut:(ownParts v l).length=v.count.toNat∧(ownParts v l).flatten=l∧∀p∈ownParts v l,endP p 1=some p.length:=by
    unfold ownParts;split
    next hg=>
     rw [if_pos hg,Nat.add_zero]at hk
     obtain ⟨i1,i2,i3⟩:=qed _ _ _ hk
     exact ⟨i1,by rw [i2,List.take_length],i3⟩
    next hg=>
     rw [if_neg hg,qb0]at hk
     have hl:l=[]:=List.eq_nil_of_length_eq_zero (Option.some.inj hk).symm
     have:=qe2 hown (Bool.eq_false_iff.2 hg)
     exact ⟨by rw [this];rfl,by rw [hl];rfl,fun p hp=> absurd hp List.not_mem_nil⟩
   obtain ⟨c1,c2,c3⟩:=hcut
   generalize ownParts v l=P at*;have keysv:∀k∈P.map keyOf,validF k=true:=fun k hk=> by
    unfold keysB at hb;split at hb
    ·rw [Bool.and_eq_true]at hb
     exact List.all_eq_true.1 hb.1 k hk
    ·have:=List.all_eq_true.1 hb k hk
     rw [(qcs k).1 this];exact qa8
   have keyse:isObj v=false→∀k∈P.map keyOf,k=[]:=fun ho k hk=> by
    unfold keysB at hb;rw [ho,if_neg (by decide)]at hb
    exact (qcs k).1 (List.all_eq_true.1 hb k hk)
   have each:∀Q:List (List V),(∀p∈Q,p∈P)→Parts (d+1) (isObj v) (Q.map keyOf) Q:=by
    intro Q;induction Q with
    | nil=> exact fun _=> .nil
    | cons p Q ih2=>
     intro hQ;have hp:=hQ p List.mem_cons_self
     have he:=c3 p hp
     match p,he,hp with
     | [],he,_=> cases he
     | v2::l2,he,hp=>
      have hm:v2.key∈P.map keyOf:=List.mem_map.2 ⟨_,hp,rfl⟩
      obtain ⟨t2,h2⟩:=ih (d+1) (isObj v) v2 l2 (by omega) he (fun ho=> keyse ho _ hm) (keysv _ hm) (List.all_eq_true.1 hc _ hp)
      exact .cons h2 (ih2 fun q hq=> hQ q (List.mem_cons_of_mem _ hq))
   have hparts:=each P (fun _ h=> h)
   obtain ⟨t,hrows⟩:=hparts.rows
   rw [c2]at hrows
   refine ⟨t,hown,by omega,P.map keyOf,hrows,by rw [List.length_map,c1];omega,fun ho=> ?_⟩
   unfold keysB at hb;rw [ho,if_pos rfl,Bool.and_eq_true]at hb
   exact of_decide_eq_true hb.2
theorem qa4 (l:List V):rightPF l=true↔∃t,Row l t:=by
 unfold rightPF
 rw [Bool.and_eq_true,Bool.and_eq_true,Bool.and_eq_true,decide_eq_true_iff,decide_eq_true_iff,qcs]
 constructor
 ·rintro ⟨⟨⟨h1,h2⟩,h3⟩,h4⟩
  match l,h2,h3,h4 with
  | [],h2,_,_=> cases h2
  | v::r,h2,h3,h4=>
   have hk:v.key=[]:=h3
   obtain ⟨t,h⟩:=qub 50 0 false v r rfl h2 (fun _=> hk) (by rw [hk];exact qa8) h4
   have:=h.rows
   rw [hk]at this
   exact ⟨_,h1,this⟩
 ·rintro ⟨t,h1,h2⟩
  obtain ⟨v,l1,l2,t1,t2,rfl,hk,hone,hr,_⟩:=qbr h2
  obtain ⟨rfl,_⟩:=qay hr rfl
  rw [List.append_nil]at*
  refine ⟨⟨⟨h1, ?_⟩,hk⟩,qui 50 0 false v l1 t1 rfl hone⟩
  have:=qcr hone []
  rw [List.append_nil]at this
  exact this
end Js
end Go.Proofs.YtgmangikcfakgaaGreatDoor
namespace Go.Proofs.YtgmangikcfakgaaGreatDoor
open Go
namespace Js
open Jt
theorem qr6 {F:List V→List V} {p:List V} (hp:keyOf (F p)=keyOf p):∀P:List (List V),(∀q∈P,keyOf (F q)=keyOf q)→insF (F p) (P.map F)=(insF p P).map F
 | [],_=> rfl
 | q::r,h=> by
  rw [List.map_cons,insF,insF,hp,h q List.mem_cons_self];split
  ·rw [qr6 hp r (fun x hx=> h x (List.mem_cons_of_mem _ hx)),List.map_cons]
  ·rfl
theorem qr3 {F:List V→List V}:∀P:List (List V),(∀q∈P,keyOf (F q)=keyOf q)→ordF (P.map F)=(ordF P).map F
 | [],_=> rfl
 | p::r,h=> by
  have h2:=fun x hx=> h x (List.mem_cons_of_mem _ hx)
  rw [List.map_cons,ordF,ordF,qr3 r h2,qr6 (h p List.mem_cons_self) (ordF r) (fun q hq=> h2 q ((qa1 r).mem_iff.2 hq))]
theorem qtg {P Q:List (List V)} (hp:Q.Perm P) (hn:(P.map keyOf).Nodup) (hs:Q.Pairwise fun p q=> ltF (keyOf q) (keyOf p)=false):Q=ordF P:=by
 have hn2:(Q.map keyOf).Nodup:=(hp.map keyOf).nodup_iff.2 hn
 have hn3:Q.Pairwise fun p q=> keyOf p≠keyOf q:=List.pairwise_map.1 hn2
 refine qgj _ _ (hp.trans (qa1 P)) ?_ (qc1 P hn)
 exact (hs.and hn3).imp fun {p q} h=> qfh _ _ (fun e=> h.2 e.symm) h.1
theorem qph {f:Nat}:∀(O:List (List V)) (j:Nat) (hj:j < O.length),(∀p∈O,(sortF f p).length=p.length)→((O.take j).map (sortF f)).flatten.length+O[j].length≤O.flatten.length
 | p::r,0,_,_=> by
  rw [List.take_zero,List.map_nil,List.flatten_nil,List.flatten_cons,List.length_append,List.getElem_cons_zero];simp
 | p::r,j+1,hj,h=> by
  have:=qph r j (by simpa using hj) (fun q hq=> h q (List.mem_cons_of_mem _ hq))
  rw [List.take_succ_cons,List.map_cons,List.flatten_cons,List.flatten_cons,List.length_append,List.length_append,h p List.mem_cons_self,List.getElem_cons_succ];omega
theorem qig {d:Nat} {o:Bool} {ks:List (List UInt8)} {P:List (List V)} (h:Parts d o ks P):∀p∈P,∃v2 l2 t2,p=v2::l2∧One d o v2 l2 t2∧p.length≤P.flatten.length:=by
 induction h with
 | nil=> exact fun p hp=> by cases hp
 | @cons v2 l2 t2 ks P h r ih=>
  intro p hp;rw [List.flatten_cons,List.length_append];rcases List.mem_cons.1 hp with rfl | hp
  ·exact ⟨v2,l2,t2,rfl,h,by omega⟩
  ·obtain ⟨a,b,c,e,o,q⟩:=ih p hp
   exact ⟨a,b,c,e,o,by omega⟩
theorem qq8 {d:Nat} {o:Bool} {ks:List (List UInt8)} {P:List (List V)} (h:Parts d o ks P):P.map keyOf=ks:=by
 induction h with
 | nil=> rfl
 | cons _ _ ih=> rw [List.map_cons,ih];rfl
theorem qe5 {d:Nat} {ob:Bool} {v:V} {l:List V} {t:List UInt8} (h:One d ob v l t):∀p∈ownParts v l,∃v2 l2 t2,p=v2::l2∧One (d+1) (isObj v) v2 l2 t2∧p.length≤l.length:=by
 obtain ⟨ks,h1,_,_,h4,_⟩:=qcp h []
 rw [List.append_nil]at h1 h4
 have:=qig h1
 rw [h4]at this
 exact this
def ordP (v:V) (l:List V):List (List V):=if isObj v=true then ordF (ownParts v l) else ownParts v l
theorem qdg (v:V) (l:List V):(ordP v l).Perm (ownParts v l):=by
 unfold ordP
 split
 ·exact (qa1 _).symm
 ·exact .refl _
theorem qee {f d:Nat} {ob:Bool} {v:V} {l:List V} {t:List UInt8} (h:One d ob v l t) (hf:l.length≤f):sortF (f+1) (v::l)=v::((ordP v l).map (sortF f)).flatten∧(∀p∈ordP v l,(sortF f p).length=p.length)∧(ordP v l).flatten.length=l.length∧
  (isObj v=true→((ownParts v l).map keyOf).Nodup):=by
 have hpo:=qe5 h
 obtain ⟨ks,h1,h2,h3,h4,_⟩:=qcp h []
 rw [List.append_nil]at h1 h4
 have hread:=h1.read []
 rw [List.append_nil,h4]at hread
 have hk:∀p∈ownParts v l,keyOf (sortF f p)=keyOf p:=fun p hp=> by
  obtain ⟨v2,l2,t2,rfl,o,hle⟩:=hpo p hp
  rw [qy7 (by rw [List.length_cons]at hle;omega) o]
  rfl
 have hl:∀p∈ownParts v l,(sortF f p).length=p.length:=fun p hp=> by
  obtain ⟨v2,l2,t2,rfl,o,hle⟩:=hpo p hp
  obtain ⟨l',t',e1,_,e3⟩:=qgv f (d+1) (isObj v) v2 l2 t2 (by rw [List.length_cons]at hle;omega) o
  rw [e1,List.length_cons,List.length_cons,e3]
 have hkeys:=qq8 h1
 refine ⟨?_,fun p hp=> hl p ((qdg v l).mem_iff.1 hp), ?_,fun ho=> by rw [hkeys];exact h3 ho⟩
 ·rw [sortF,show v.count.toNat=ks.length by omega,hread]
  unfold ordP;by_cases ho:isObj v=true
  ·rw [if_pos ho,if_pos ho,qr3 _ hk]
  ·rw [if_neg ho,if_neg ho]
   rfl
 ·rw [(qdg v l).flatten.length_eq,h4]
end Js
end Go.Proofs.YtgmangikcfakgaaGreatDoor
