import Derived.Laws.Entries
set_option maxRecDepth 100000
set_option maxHeartbeats 40000000
namespace Go.Proofs.YtgmangikcfakgaaGreatDoor
open Go
namespace Jt
def goes (b:UInt8):Bool:=decide (128≤b.toNat) && decide (b.toNat≤191)
theorem qat {b:UInt8}:goes b=true↔128≤b.toNat∧b.toNat≤191:=by
 unfold goes
 rw [Bool.and_eq_true,decide_eq_true_eq,decide_eq_true_eq]
def two (a b:UInt8):Nat:=(a.toNat - 192)*64+(b.toNat - 128)
def three (a b c:UInt8):Nat:=((a.toNat - 224)*64+(b.toNat - 128))*64+(c.toNat - 128)
def four (a b c d:UInt8):Nat:=(((a.toNat - 240)*64+(b.toNat - 128))*64+(c.toNat - 128))*64+(d.toNat - 128)
def scalar (n:Nat):Bool:=decide (n < 55296) || (decide (57344≤n) && decide (n≤1114111))
theorem qal {n:Nat}:scalar n=true↔n < 55296∨57344≤n∧n≤1114111:=by
 unfold scalar
 rw [Bool.or_eq_true,Bool.and_eq_true,decide_eq_true_eq,decide_eq_true_eq,decide_eq_true_eq]
def char2 (a:UInt8):List UInt8→Nat×Nat
 | b::_=> if goes b=true∧128≤two a b then (two a b,2) else (0,0)
 | []=> (0,0)
def char3 (a:UInt8):List UInt8→Nat×Nat
 | b::c::_=> if goes b=true∧goes c=true∧2048≤three a b c∧scalar (three a b c)=true then (three a b c,3) else (0,0)
 | _=> (0,0)
def char4 (a:UInt8):List UInt8→Nat×Nat
 | b::c::d::_=> if goes b=true∧goes c=true∧goes d=true∧65536≤four a b c d∧scalar (four a b c d)=true then (four a b c d,4) else (0,0)
 | _=> (0,0)
def charF:List UInt8→Nat×Nat
 | []=> (0,0)
 | a::r=>
  if a.toNat < 128 then (a.toNat,1)
  else if 192≤a.toNat∧a.toNat < 224 then char2 a r
  else if 224≤a.toNat∧a.toNat < 240 then char3 a r
  else if 240≤a.toNat∧a.toNat < 248 then char4 a r
  else (0,0)
def bytesF (n:Nat):List UInt8:=
 if n < 128 then [UInt8.ofNat n]
 else if n < 2048 then [UInt8.ofNat (192+n / 64),UInt8.ofNat (128+n % 64)]
 else if n < 65536 then [UInt8.ofNat (224+n / 4096),UInt8.ofNat (128+n / 64 % 64),UInt8.ofNat (128+n % 64)]
 else [UInt8.ofNat (240+n / 262144),UInt8.ofNat (128+n / 4096 % 64),UInt8.ofNat (128+n / 64 % 64),UInt8.ofNat (128+n % 64)]
theorem qca (n:Nat):0 < (bytesF n).length:=by
 unfold bytesF
 split
 ·exact Nat.succ_pos _
 split
 ·exact Nat.succ_pos _
 split
 ·exact Nat.succ_pos _
 ·exact Nat.succ_pos _
theorem ofN (b:UInt8) (n:Nat) (h:n=b.toNat):UInt8.ofNat n=b:=by
 rw [h]
 exact UInt8.ofNat_toNat
theorem toN (n:Nat) (h:n < 256):(UInt8.ofNat n).toNat=n:=by
 rw [UInt8.toNat_ofNat']
 omega
theorem qkx {n:Nat} (h:scalar n=true) (t:List UInt8):charF (bytesF n++t)=(n,(bytesF n).length):=by
 have h:=qal.1 h
 unfold bytesF
 split
 ·show charF (UInt8.ofNat n::t)=(n,1)
  rw [charF];rw [toN n (by omega),if_pos (by assumption)]
 split
 ·show charF (UInt8.ofNat (192+n / 64)::UInt8.ofNat (128+n % 64)::t)=(n,2)
  have e1:=toN (192+n / 64) (by omega)
  have e2:=toN (128+n % 64) (by omega)
  have e:two (UInt8.ofNat (192+n / 64)) (UInt8.ofNat (128+n % 64))=n:=by
   unfold two;rw [e1,e2];omega
  rw [charF];rw [if_neg (by omega),if_pos (by omega),char2,e,if_pos ⟨qat.2 (by omega),by omega⟩]
 split
 ·show charF (UInt8.ofNat (224+n / 4096)::UInt8.ofNat (128+n / 64 % 64)::UInt8.ofNat (128+n % 64)::t)=(n,3)
  have e1:=toN (224+n / 4096) (by omega)
  have e2:=toN (128+n / 64 % 64) (by omega)
  have e3:=toN (128+n % 64) (by omega)
  have e:three (UInt8.ofNat (224+n / 4096)) (UInt8.ofNat (128+n / 64 % 64)) (UInt8.ofNat (128+n % 64))=n:=by
   unfold three;rw [e1,e2,e3];omega
  rw [charF];rw [if_neg (by omega),if_neg (by omega),if_pos (by omega),char3,e,if_pos ⟨qat.2 (by omega),qat.2 (by omega),by omega,qal.2 h⟩]
 ·show charF (UInt8.ofNat (240+n / 262144)::UInt8.ofNat (128+n / 4096 % 64)::UInt8.ofNat (128+n / 64 % 64)::UInt8.ofNat (128+n % 64)::t)=(n,4)
  have e1:=toN (240+n / 262144) (by omega)
  have e2:=toN (128+n / 4096 % 64) (by omega)
  have e3:=toN (128+n / 64 % 64) (by omega)
  have e4:=toN (128+n % 64) (by omega)
  have e:four (UInt8.ofNat (240+n / 262144)) (UInt8.ofNat (128+n / 4096 % 64)) (UInt8.ofNat (128+n / 64 % 64)) (UInt8.ofNat (128+n % 64))=n:=by
   unfold four;rw [e1,e2,e3,e4];omega
  rw [charF];rw [if_neg (by omega),if_neg (by omega),if_neg (by omega),if_pos (by omega),char4,e,if_pos ⟨qat.2 (by omega),qat.2 (by omega),qat.2 (by omega),by omega,qal.2 h⟩]
def ChIs (s:List UInt8) (p:Nat×Nat):Prop:=scalar p.1=true∧p.2=(bytesF p.1).length∧∃t,s=bytesF p.1++t
theorem qz8 {a:UInt8} {r:List UInt8} (h2:192≤a.toNat∧a.toNat < 224) (h:(char2 a r).2≠0):ChIs (a::r) (char2 a r):=by
 match r with
 | []=> exact absurd rfl h
 | b::t=>
  rw [char2]at h ⊢
  by_cases h3:goes b=true∧128≤two a b
  ·rw [if_pos h3]
   have g:=qat.1 h3.1
   have h4:=h3.2
   unfold two at h4;have e:bytesF (two a b)=[a,b]:=by
    unfold bytesF two;rw [if_neg (by omega),if_pos (by omega),ofN a _ (by omega),ofN b _ (by omega)]
   exact ⟨qal.2 (by show two a b < 55296∨_;unfold two;omega),by rw [e];rfl,t,by rw [e];rfl⟩
  ·rw [if_neg h3]at h
   exact absurd rfl h
theorem qzr {a:UInt8} {r:List UInt8} (h2:224≤a.toNat∧a.toNat < 240) (h:(char3 a r).2≠0):ChIs (a::r) (char3 a r):=by
 match r with
 | []=> exact absurd rfl h
 | [_]=> exact absurd rfl h
 | b::c::t=>
  rw [char3]at h ⊢
  by_cases h3:goes b=true∧goes c=true∧2048≤three a b c∧scalar (three a b c)=true
  ·rw [if_pos h3]
   have g1:=qat.1 h3.1
   have g2:=qat.1 h3.2.1
   have h4:=h3.2.2.1
   unfold three at h4;have e:bytesF (three a b c)=[a,b,c]:=by
    unfold bytesF three;rw [if_neg (by omega),if_neg (by omega),if_pos (by omega),ofN a _ (by omega),ofN b _ (by omega),ofN c _ (by omega)]
   exact ⟨h3.2.2.2,by rw [e];rfl,t,by rw [e];rfl⟩
  ·rw [if_neg h3]at h
   exact absurd rfl h
theorem qzz {a:UInt8} {r:List UInt8} (h2:240≤a.toNat∧a.toNat < 248) (h:(char4 a r).2≠0):ChIs (a::r) (char4 a r):=by
 match r with
 | []=> exact absurd rfl h
 | [_]=> exact absurd rfl h
 | [_,_]=> exact absurd rfl h
 | b::c::d::t=>
  rw [char4]at h ⊢
  by_cases h3:goes b=true∧goes c=true∧goes d=true∧65536≤four a b c d∧scalar (four a b c d)=true
  ·rw [if_pos h3]
   have g1:=qat.1 h3.1
   have g2:=qat.1 h3.2.1
   have g3:=qat.1 h3.2.2.1
   have h4:=h3.2.2.2.1
   have h5:=qal.1 h3.2.2.2.2
   unfold four at h4 h5;have e:bytesF (four a b c d)=[a,b,c,d]:=by
    unfold bytesF four;rw [if_neg (by omega),if_neg (by omega),if_neg (by omega),ofN a _ (by omega),ofN b _ (by omega),ofN c _ (by omega),ofN d _ (by omega)]
   exact ⟨h3.2.2.2.2,by rw [e];rfl,t,by rw [e];rfl⟩
  ·rw [if_neg h3]at h
   exact absurd rfl h
theorem qcy {s:List UInt8} (h:(charF s).2≠0):ChIs s (charF s):=by
 match s with
 | []=> exact absurd rfl h
 | a::r=>
  rw [charF]at h ⊢
  by_cases h1:a.toNat < 128
  ·rw [if_pos h1]
   have e:bytesF a.toNat=[a]:=by
    unfold bytesF;rw [if_pos h1,ofN a _ rfl]
   exact ⟨qal.2 (by show a.toNat < 55296∨_;omega),by rw [e];rfl,r,by rw [e];rfl⟩
  rw [if_neg h1]at h ⊢
  by_cases h2:192≤a.toNat∧a.toNat < 224
  ·rw [if_pos h2]at h ⊢
   exact qz8 h2 h
  rw [if_neg h2]at h ⊢
  by_cases h3:224≤a.toNat∧a.toNat < 240
  ·rw [if_pos h3]at h ⊢
   exact qzr h3 h
  rw [if_neg h3]at h ⊢
  by_cases h4:240≤a.toNat∧a.toNat < 248
  ·rw [if_pos h4]at h ⊢
   exact qzz h4 h
  rw [if_neg h4]at h
  exact absurd rfl h
end Jt
namespace Jt
theorem qpi {a:UInt8} {r:List UInt8} (h:(charF (a::r)).2≠0):a::r=bytesF (charF (a::r)).1++r.drop ((charF (a::r)).2 - 1):=by
 obtain ⟨_,h2,t,h3⟩:=qcy h
 have hp:=qca (charF (a::r)).1
 have e:r.drop ((charF (a::r)).2 - 1)=t:=by
  have e1:(a::r).drop (charF (a::r)).2=t:=(congrArg (List.drop (charF (a::r)).2) h3).trans (List.drop_left' h2.symm)
  rw [←e1];conv=> rhs;rw [show (charF (a::r)).2=((charF (a::r)).2 - 1)+1 by omega,List.drop_succ_cons]
 rw [e]
 exact h3
theorem qv7 {P:List UInt8→Prop} (h0:P []) (h1:∀a r,(charF (a::r)).2=0→P r→P (a::r)) (h2:∀n t,scalar n=true→P t→P (bytesF n++t)):∀s,P s:=by
 have key:∀k (s:List UInt8),s.length≤k→P s:=by
  intro k;induction k with
  | zero=>
   intro s hs;rw [List.eq_nil_of_length_eq_zero (Nat.le_zero.1 hs)];exact h0
  | succ k ih=>
   intro s hs;match s,hs with
   | [],_=> exact h0
   | a::r,hs=>
    rw [List.length_cons]at hs
    by_cases h:(charF (a::r)).2=0
    ·exact h1 a r h (ih r (by omega))
    ·rw [qpi h]
     exact h2 _ _ (qcy h).1 (ih _ (by rw [List.length_drop];omega))
 exact fun s=> key s.length s (Nat.le_refl _)
def hexd (d:Nat):UInt8:=if d < 10 then UInt8.ofNat (48+d) else UInt8.ofNat (87+d)
def hexv (c:UInt8):Option Nat:=
 if 48≤c.toNat∧c.toNat≤57 then some (c.toNat - 48)
 else if 97≤c.toNat∧c.toNat≤102 then some (c.toNat - 87)
 else if 65≤c.toNat∧c.toNat≤70 then some (c.toNat - 55)
 else none
theorem qx0 (d:Nat) (h:d < 16):hexv (hexd d)=some d:=by
 have:∀d:Fin 16,hexv (hexd d.1)=some d.1:=by decide
 exact this ⟨d,h⟩
theorem qiq {c:UInt8} {d:Nat} (h:hexv c=some d):d < 16:=by
 unfold hexv at h
 split at h
 ·cases h;omega
 split at h
 ·cases h;omega
 split at h
 ·cases h;omega
 ·cases h
def hexq (a b c d:UInt8):Option Nat:=
 (hexv a).bind fun w=> (hexv b).bind fun x=> (hexv c).bind fun y=> (hexv d).map fun z=> ((w*16+x)*16+y)*16+z
def hex4:List UInt8→Option Nat
 | a::b::c::d::_=> hexq a b c d
 | _=> none
theorem qe9 {r:List UInt8} {n:Nat} (h:hex4 r=some n):n < 65536∧∃a b c d t,r=a::b::c::d::t∧hexq a b c d=some n:=by
 match r with
 | []=> cases h
 | [_]=> cases h
 | [_,_]=> cases h
 | [_,_,_]=> cases h
 | a::b::c::d::t=>
  rw [hex4]at h
  refine ⟨?_,a,b,c,d,t,rfl,h⟩
  unfold hexq at h;obtain ⟨w,h1,h⟩:=Option.bind_eq_some_iff.1 h
  obtain ⟨x,h2,h⟩:=Option.bind_eq_some_iff.1 h
  obtain ⟨y,h3,h⟩:=Option.bind_eq_some_iff.1 h
  obtain ⟨z,h4,h⟩:=Option.map_eq_some_iff.1 h
  have:=qiq h1
  have:=qiq h2
  have:=qiq h3
  have:=qiq h4
  omega
def oneF (n:Nat):List UInt8:=
 if n=8 then [92,98] else if n=9 then [92,116] else if n=10 then [92,110] else if n=12 then [92,102] else if n=13 then [92,114] else if n=34 then [92,34]
 else if n=92 then [92,92] else if n < 32 then [92,117,48,48,hexd (n / 16),hexd (n % 16)] else bytesF n
def quoteB:List UInt8→List UInt8
 | []=> []
 | a::r=> if (charF (a::r)).2=0 then [239,191,189]++quoteB r
  else (if (charF (a::r)).1 < 128 then oneF (charF (a::r)).1 else bytesF (charF (a::r)).1)++quoteB (r.drop ((charF (a::r)).2 - 1))
termination_by s=> s.length
decreasing_by
 ·simp
 ·simp only [List.length_drop,List.length_cons];omega
def quoteF (s:List UInt8):List UInt8:=34::(quoteB s++[34])
def lowF (n:Nat):List UInt8→Option (List UInt8×Nat)
 | x::y::r=> if x=92∧y=117 then (hex4 r).bind fun m=> if 56320≤m∧m≤57343 then some (bytesF (65536+(n - 55296)*1024+(m - 56320)),11) else none else none
 | _=> none
def escF:List UInt8→Option (List UInt8×Nat)
 | []=> none
 | a::r=> if a=98 then some (bytesF 8,1) else if a=116 then some (bytesF 9,1) else if a=110 then some (bytesF 10,1) else if a=102 then some (bytesF 12,1)
  else if a=114 then some (bytesF 13,1) else if a=34 then some (bytesF 34,1) else if a=47 then some (bytesF 47,1) else if a=92 then some (bytesF 92,1)
  else if a=117 then (hex4 r).bind fun n=> if n < 55296∨57343 < n then some (bytesF n,5) else if 56319 < n then none else lowF n (r.drop 4)
  else none
def unqB:List UInt8→Option (List UInt8×Nat)
 | []=> none
 | a::r=> if a=34 then some ([],1)
  else if a=92 then (escF r).bind fun e=> (unqB (r.drop e.2)).map fun p=> (e.1++p.1,1+e.2+p.2)
  else if (charF (a::r)).2=0∨(charF (a::r)).1 < 32 then none
  else (unqB (r.drop ((charF (a::r)).2 - 1))).map fun p=> (bytesF (charF (a::r)).1++p.1,(charF (a::r)).2+p.2)
termination_by s=> s.length
decreasing_by
 ·simp only [List.length_drop,List.length_cons];omega
 ·simp only [List.length_drop,List.length_cons];omega
def unqF:List UInt8→Option (List UInt8×Nat)
 | []=> none
 | a::r=> if a=34 then (unqB r).map fun p=> (p.1,1+p.2) else none
def fixF:List UInt8→List UInt8
 | []=> []
 | a::r=> if (charF (a::r)).2=0 then bytesF 65533++fixF r else bytesF (charF (a::r)).1++fixF (r.drop ((charF (a::r)).2 - 1))
termination_by s=> s.length
decreasing_by
 ·simp
 ·simp only [List.length_drop,List.length_cons];omega
def validF:List UInt8→Bool
 | []=> true
 | a::r=> if (charF (a::r)).2=0 then false else validF (r.drop ((charF (a::r)).2 - 1))
termination_by s=> s.length
decreasing_by
 simp only [List.length_drop,List.length_cons];omega
theorem qta (n:Nat):∃a r,bytesF n=a::r:=by
 match h:bytesF n with
 | []=> have:=qca n;rw [h]at this;exact absurd this (by decide)
 | a::r=> exact ⟨a,r,rfl⟩
theorem qg2 {n:Nat} (hn:scalar n=true) (t:List UInt8):∃a r,bytesF n++t=a::r∧charF (a::r)=(n,(bytesF n).length)∧r.drop ((bytesF n).length - 1)=t:=by
 obtain ⟨a,r,h⟩:=qta n
 refine ⟨a,r++t,by rw [h];rfl, ?_, ?_⟩
 ·have:=qkx hn t
  rw [h]at this ⊢
  exact this
 ·rw [h]
  exact List.drop_left
theorem qpf {n:Nat} (hn:scalar n=true) (t:List UInt8):quoteB (bytesF n++t)=(if n < 128 then oneF n else bytesF n)++quoteB t:=by
 obtain ⟨a,r,h1,h2,h3⟩:=qg2 hn t
 have hp:=qca n
 rw [h1,quoteB,h2,h3]
 simp only
 rw [if_neg (by omega)]
theorem qih:([239,191,189]:List UInt8)=bytesF 65533:=by decide
theorem qik {a:UInt8} {r:List UInt8} (h:(charF (a::r)).2=0):quoteB (a::r)=bytesF 65533++quoteB r:=by
 rw [quoteB,if_pos h,qih]
theorem qvs {n:Nat} (hn:scalar n=true) (t:List UInt8):fixF (bytesF n++t)=bytesF n++fixF t:=by
 obtain ⟨a,r,h1,h2,h3⟩:=qg2 hn t
 have hp:=qca n
 rw [h1,fixF,h2,h3]
 simp only
 rw [if_neg (by omega)]
theorem qsy {a:UInt8} {r:List UInt8} (h:(charF (a::r)).2=0):fixF (a::r)=bytesF 65533++fixF r:=by rw [fixF,if_pos h]
theorem qhc {n:Nat} (hn:scalar n=true) (t:List UInt8):validF (bytesF n++t)=validF t:=by
 obtain ⟨a,r,h1,h2,h3⟩:=qg2 hn t
 have hp:=qca n
 rw [h1,validF,h2,h3]
 simp only
 rw [if_neg (by omega)]
theorem qnd {a:UInt8} {r:List UInt8} (h:(charF (a::r)).2=0):validF (a::r)=false:=by rw [validF,if_pos h]
theorem qa8:validF []=true:=by rw [validF]
theorem qeh:quoteB []=[]:=by rw [quoteB]
theorem qlp:fixF []=[]:=by rw [fixF]
theorem qc2:∀s,validF s=true→fixF s=s:=by
 refine qv7 ?_ ?_ ?_
 ·intro _
  exact qlp
 ·intro a r h _ hv
  rw [qnd h]at hv
  cases hv
 ·intro n t hn ih hv
  rw [qhc hn]at hv
  rw [qvs hn,ih hv]
theorem qz9 {n:Nat} (hn:scalar n=true) (t:List UInt8):∃a r,bytesF n++t=a::r∧charF (a::r)=(n,(bytesF n).length)∧r.drop ((bytesF n).length - 1)=t∧(n≠34→a≠34)∧(n≠92→a≠92):=by
 obtain ⟨a,r,h1,h2,h3⟩:=qg2 hn t
 refine ⟨a,r,h1,h2,h3,fun h e=> ?_,fun h e=> ?_⟩
 ·subst e
  rw [charF,if_pos (by decide)]at h2
  exact h (congrArg Prod.fst h2).symm
 ·subst e
  rw [charF,if_pos (by decide)]at h2
  exact h (congrArg Prod.fst h2).symm
theorem qkg {n:Nat} (hn:scalar n=true) (h32:¬n < 32) (h34:n≠34) (h92:n≠92) (t:List UInt8):unqB (bytesF n++t)=(unqB t).map fun p=> (bytesF n++p.1,(bytesF n).length+p.2):=by
 obtain ⟨a,r,h1,h2,h3,h4,h5⟩:=qz9 hn t
 have hp:=qca n
 rw [h1,unqB,if_neg (h4 h34),if_neg (h5 h92),h2,h3]
 simp only
 rw [if_neg (by omega)]
theorem qb8 {r x:List UInt8} {k:Nat} (h:escF r=some (x,k)):unqB (92::r)=(unqB (r.drop k)).map fun p=> (x++p.1,1+k+p.2):=by
 rw [unqB,if_neg (by decide),if_pos rfl,h]
 rfl
theorem ql7 (t:List UInt8):unqB (34::t)=some ([],1):=by rw [unqB,if_pos rfl]
theorem qix:unqB []=none:=by rw [unqB]
theorem q16 {n:Nat} (h:n < 32) (t:List UInt8):escF (117::48::48::hexd (n / 16)::hexd (n % 16)::t)=some (bytesF n,5):=by
 have e:hexq 48 48 (hexd (n / 16)) (hexd (n % 16))=some n:=by
  have h0:hexv 48=some 0:=by decide
  unfold hexq;rw [h0,qx0 _ (by omega),qx0 _ (by omega)];show some (((0*16+0)*16+n / 16)*16+n % 16)=some n
  congr 1
  omega
 rw [escF,if_neg (by decide),if_neg (by decide),if_neg (by decide),if_neg (by decide),if_neg (by decide),if_neg (by decide),if_neg (by decide),if_neg (by decide),if_pos rfl,hex4,e]
 show (if n < 55296∨57343 < n then some (bytesF n,5) else _)=_
 rw [if_pos (by omega)]
theorem q04 {n:Nat} (h:n < 128) (t:List UInt8):unqB (oneF n++t)=(unqB t).map fun p=> (bytesF n++p.1,(oneF n).length+p.2):=by
 unfold oneF
 split
 ·rename_i e;subst e;exact qb8 (r:=98::t) rfl
 split
 ·rename_i e;subst e;exact qb8 (r:=116::t) rfl
 split
 ·rename_i e;subst e;exact qb8 (r:=110::t) rfl
 split
 ·rename_i e;subst e;exact qb8 (r:=102::t) rfl
 split
 ·rename_i e;subst e;exact qb8 (r:=114::t) rfl
 split
 ·rename_i e;subst e;exact qb8 (r:=34::t) rfl
 split
 ·rename_i e;subst e;exact qb8 (r:=92::t) rfl
 split
 ·rename_i e
  exact qb8 (r:=117::48::48::hexd (n / 16)::hexd (n % 16)::t) (q16 e t)
 ·exact qkg (qal.2 (by omega)) (by assumption) (by assumption) (by assumption) t
theorem qwm (rest:List UInt8):∀s,unqB (quoteB s++34::rest)=some (fixF s,(quoteB s).length+1):=by
 refine qv7 ?_ ?_ ?_
 ·rw [qeh,qlp]
  exact ql7 rest
 ·intro a r h ih
  rw [qik h,qsy h,List.append_assoc,qkg (by decide) (by decide) (by decide) (by decide),ih,List.length_append,Nat.add_assoc];rfl
 ·intro n t hn ih
  rw [qpf hn,qvs hn,List.append_assoc];by_cases h:n < 128
  ·rw [if_pos h,q04 h,ih,List.length_append,Nat.add_assoc]
   rfl
  ·rw [if_neg h,qkg hn (by omega) (by omega) (by omega),ih,List.length_append,Nat.add_assoc]
   rfl
theorem qo0 (s rest:List UInt8):unqF (quoteF s++rest)=some (fixF s,(quoteF s).length):=by
 have e:quoteF s++rest=34::(quoteB s++34::rest):=by
  unfold quoteF;rw [List.cons_append,List.append_assoc];rfl
 rw [e,unqF,if_pos rfl,qwm]
 show some (fixF s,1+((quoteB s).length+1))=_
 unfold quoteF
 rw [List.length_cons,List.length_append,List.length_singleton,Nat.add_comm]
theorem q14 {n:Nat} {r x:List UInt8} {k:Nat} (h1:55296≤n) (h2:n≤56319) (h:lowF n r=some (x,k)):k=11∧(∃c,scalar c=true∧x=bytesF c)∧∃e t,r=e++t∧e.length=6∧∀u,lowF n (e++u)=some (x,k):=by
 match r with
 | []=> cases h
 | [_]=> cases h
 | a::b::r=>
  rw [lowF]at h
  split at h
  ·rename_i hab
   obtain ⟨m,hm,h⟩:=Option.bind_eq_some_iff.1 h
   split at h
   ·rename_i hr
    simp only [Option.some.injEq,Prod.mk.injEq]at h
    obtain ⟨rfl,rfl⟩:=h
    obtain ⟨_,c1,c2,c3,c4,t,rfl,hq⟩:=qe9 hm
    refine ⟨rfl,⟨_,qal.2 (by omega),rfl⟩,[a,b,c1,c2,c3,c4],t,rfl,rfl,fun u=> ?_⟩
    show lowF n (a::b::c1::c2::c3::c4::u)=_
    rw [lowF,if_pos hab,hex4,hq];exact if_pos hr
   ·cases h
  ·cases h
theorem qb1 {a:UInt8} {r x:List UInt8} {k:Nat} {c:Nat} (hs:scalar c=true) (e:∀u,escF (a::u)=some (bytesF c,1)) (h:escF (a::r)=some (x,k)):
  (∃c,scalar c=true∧x=bytesF c)∧∃e t,a::r=e++t∧e.length=k∧∀u,escF (e++u)=some (x,k):=by
 rw [e r]at h
 simp only [Option.some.injEq,Prod.mk.injEq]at h
 obtain ⟨rfl,rfl⟩:=h
 exact ⟨⟨c,hs,rfl⟩,[a],r,rfl,rfl,fun u=> e u⟩
theorem qsi {r x:List UInt8} {k:Nat} (h:escF r=some (x,k)):(∃c,scalar c=true∧x=bytesF c)∧∃e t,r=e++t∧e.length=k∧∀u,escF (e++u)=some (x,k):=by
 match r with
 | []=> cases h
 | a::r=>
  by_cases a1:a=98
  ·subst a1;exact qb1 (c:=8) rfl (fun u=> rfl) h
  by_cases a2:a=116
  ·subst a2;exact qb1 (c:=9) rfl (fun u=> rfl) h
  by_cases a3:a=110
  ·subst a3;exact qb1 (c:=10) rfl (fun u=> rfl) h
  by_cases a4:a=102
  ·subst a4;exact qb1 (c:=12) rfl (fun u=> rfl) h
  by_cases a5:a=114
  ·subst a5;exact qb1 (c:=13) rfl (fun u=> rfl) h
  by_cases a6:a=34
  ·subst a6;exact qb1 (c:=34) rfl (fun u=> rfl) h
  by_cases a7:a=47
  ·subst a7;exact qb1 (c:=47) rfl (fun u=> rfl) h
  by_cases a8:a=92
  ·subst a8;exact qb1 (c:=92) rfl (fun u=> rfl) h
  rw [escF,if_neg a1,if_neg a2,if_neg a3,if_neg a4,if_neg a5,if_neg a6,if_neg a7,if_neg a8]at h
  by_cases a9:a=117
  ·rw [if_pos a9]at h
   obtain ⟨n,hn,h⟩:=Option.bind_eq_some_iff.1 h
   obtain ⟨hlt,c1,c2,c3,c4,t,rfl,hq⟩:=qe9 hn
   have ef:∀u,escF (a::c1::c2::c3::c4::u)=if n < 55296∨57343 < n then some (bytesF n,5) else if 56319 < n then none else lowF n u:=fun u=> by
    rw [escF,if_neg a1,if_neg a2,if_neg a3,if_neg a4,if_neg a5,if_neg a6,if_neg a7,if_neg a8,if_pos a9,hex4,hq];rfl
   by_cases hw:n < 55296∨57343 < n
   ·rw [if_pos hw]at h
    simp only [Option.some.injEq,Prod.mk.injEq]at h
    obtain ⟨rfl,rfl⟩:=h
    exact ⟨⟨n,qal.2 (by omega),rfl⟩,[a,c1,c2,c3,c4],t,rfl,rfl,fun u=> by
     show escF (a::c1::c2::c3::c4::u)=_
     rw [ef u,if_pos hw]⟩
   ·rw [if_neg hw]at h
    by_cases hh:56319 < n
    ·rw [if_pos hh]at h
     cases h
    ·rw [if_neg hh]at h
     obtain ⟨rfl,hc,e,t2,e1,e2,e3⟩:=q14 (by omega) (by omega) h
     have e1:t=e++t2:=e1
     refine ⟨hc,a::c1::c2::c3::c4::e,t2,by rw [e1];rfl,by simp only [List.length_cons,e2],fun u=> ?_⟩
     show escF (a::c1::c2::c3::c4::(e++u))=_
     rw [ef,if_neg hw,if_neg hh,e3]
  ·rw [if_neg a9]at h
   cases h
theorem q1q:∀(m:Nat) (s:List UInt8),s.length≤m→∀x k,unqB s=some (x,k)→validF x=true∧∃e t,s=e++t∧e.length=k∧0 < k∧∀u,unqB (e++u)=some (x,k):=by
 intro m
 induction m with
 | zero=>
  intro s hs x k h;rw [List.eq_nil_of_length_eq_zero (Nat.le_zero.1 hs),qix]at h
  cases h
 | succ m ih=>
  intro s hs x k h;match s,hs with
  | [],_=> rw [qix]at h;cases h
  | a::r,hs=>
   rw [List.length_cons]at hs
   rw [unqB]at h
   by_cases a1:a=34
   ·rw [if_pos a1]at h
    simp only [Option.some.injEq,Prod.mk.injEq]at h
    obtain ⟨rfl,rfl⟩:=h
    subst a1;exact ⟨qa8,[34],r,rfl,rfl,by decide,fun u=> ql7 u⟩
   rw [if_neg a1]at h
   by_cases a2:a=92
   ·rw [if_pos a2]at h
    subst a2;obtain ⟨⟨y,j⟩,hy,h⟩:=Option.bind_eq_some_iff.1 h
    obtain ⟨⟨z,i⟩,hz,h⟩:=Option.map_eq_some_iff.1 h
    simp only [Prod.mk.injEq]at h
    obtain ⟨rfl,rfl⟩:=h
    obtain ⟨⟨c,hc,rfl⟩,e,t,rfl,rfl,he⟩:=qsi hy
    simp only [List.drop_left]at hz
    obtain ⟨v,e2,t2,rfl,rfl,_,he2⟩:=ih t (by rw [List.length_append]at hs;omega) _ _ hz
    refine ⟨by rw [qhc hc];exact v,92::(e++e2),t2,by rw [List.cons_append,List.append_assoc],by simp only [List.length_cons,List.length_append];omega,by omega,fun u=> ?_⟩
    rw [List.cons_append,List.append_assoc,qb8 (he (e2++u)),List.drop_left,he2];rfl
   rw [if_neg a2]at h
   by_cases hb:(charF (a::r)).2=0∨(charF (a::r)).1 < 32
   ·rw [if_pos hb]at h
    cases h
   rw [if_neg hb]at h
   obtain ⟨⟨z,i⟩,hz,h⟩:=Option.map_eq_some_iff.1 h
   simp only [Prod.mk.injEq]at h
   obtain ⟨rfl,rfl⟩:=h
   have h0:(charF (a::r)).2≠0:=fun e=> hb (.inl e)
   obtain ⟨hs1,hs2,_⟩:=qcy h0
   have hcut:=qpi h0
   have hp:=qca (charF (a::r)).1
   obtain ⟨v,e2,t2,et,rfl,_,he2⟩:=ih (r.drop ((charF (a::r)).2 - 1)) (by rw [List.length_drop];omega) _ _ hz
   rw [et]at hcut
   have n34:(charF (a::r)).1≠34:=fun e=> by
    rw [e]at hcut
    exact a1 (List.cons.inj hcut).1
   have n92:(charF (a::r)).1≠92:=fun e=> by
    rw [e]at hcut
    exact a2 (List.cons.inj hcut).1
   refine ⟨by rw [qhc hs1];exact v,bytesF (charF (a::r)).1++e2,t2,by rw [List.append_assoc];exact hcut,by rw [List.length_append,hs2],by omega,fun u=> ?_⟩
   rw [List.append_assoc,qkg hs1 (fun h=> hb (.inr h)) n34 n92,he2,hs2];rfl
theorem qfe {s x:List UInt8} {k:Nat} (h:unqF s=some (x,k)):validF x=true∧2≤k∧k≤s.length∧∀u,unqF (s.take k++u)=some (x,k):=by
 match s with
 | []=> cases h
 | a::r=>
  rw [unqF]at h
  by_cases a1:a=34
  ·rw [if_pos a1]at h
   obtain ⟨⟨z,i⟩,hz,h⟩:=Option.map_eq_some_iff.1 h
   simp only [Prod.mk.injEq]at h
   obtain ⟨rfl,rfl⟩:=h
   obtain ⟨v,e,t,rfl,rfl,hp,he⟩:=q1q r.length r (Nat.le_refl _) _ _ hz
   refine ⟨v,by omega,by rw [List.length_cons,List.length_append];omega,fun u=> ?_⟩
   rw [Nat.add_comm,List.take_succ_cons,List.take_left,List.cons_append,unqF,if_pos a1,he u,Nat.add_comm];rfl
  ·rw [if_neg a1]at h
   cases h
end Jt
namespace Jt
def isD (a:UInt8):Bool:=decide (48≤a.toNat) && decide (a.toNat≤57)
theorem qdt {a:UInt8}:isD a=true↔48≤a.toNat∧a.toNat≤57:=by
 unfold isD
 rw [Bool.and_eq_true,decide_eq_true_eq,decide_eq_true_eq]
def digF:List UInt8→Nat
 | []=> 0
 | a::r=> if isD a=true then digF r+1 else 0
theorem qf7 {a:UInt8} {r:List UInt8} (h:isD a=false):digF (a::r)=0:=by rw [digF,h];rfl
theorem qlt {a:UInt8} {r:List UInt8} (h:isD a=true):digF (a::r)=digF r+1:=by rw [digF,if_pos h]
theorem qb5:∀s:List UInt8,digF s≤s.length
 | []=> Nat.le_refl _
 | a::r=> by
  have:=qb5 r
  rw [digF,List.length_cons];split <;> omega
theorem qhg {u:List UInt8} (hu:digF u=0):∀(s:List UInt8) (j:Nat),j≤digF s→digF (s.take j++u)=j
 | [],j,h=> by
  obtain rfl:j=0:=Nat.le_zero.1 h
  exact hu
 | a::r,0,_=> hu
 | a::r,j+1,h=> by
  rw [digF]at h
  split at h
  ·rename_i ha
   rw [List.take_succ_cons,List.cons_append,qlt ha,qhg hu r j (by omega)]
  ·omega
def fracF:List UInt8→Nat
 | []=> 0
 | a::u=> if a=46∧digF u≠0 then 1+digF u else 0
def signF:List UInt8→Nat
 | []=> 0
 | a::_=> if a=43∨a=45 then 1 else 0
def expF:List UInt8→Nat
 | []=> 0
 | a::u=> if (a=101∨a=69)∧digF (u.drop (signF u))≠0 then 1+signF u+digF (u.drop (signF u)) else 0
def wholeF (s:List UInt8):Nat:=if digF s=0 then 0 else if s.head? =some 48 then 1 else digF s
def posF (s:List UInt8):Nat:=
 if wholeF s=0 then 0 else wholeF s+fracF (s.drop (wholeF s))+expF (s.drop (wholeF s+fracF (s.drop (wholeF s))))
def minF:List UInt8→Nat
 | []=> 0
 | a::_=> if a=45 then 1 else 0
def numF (s:List UInt8):Nat:=if posF (s.drop (minF s))=0 then 0 else minF s+posF (s.drop (minF s))
theorem qdw (s:List UInt8):wholeF s≤digF s:=by
 unfold wholeF
 split
 ·omega
 split
 ·omega
 ·omega
theorem quv {s u:List UInt8} (hu:digF u=0) (h:wholeF s≠0):wholeF (s.take (wholeF s)++u)=wholeF s:=by
 have hd:=qdw s
 have e:=qhg hu s (wholeF s) hd
 have hh:(s.take (wholeF s)++u).head? =s.head? :=by
  match s,h with
  | [],h=> exact absurd rfl h
  | a::r,h=>
   obtain ⟨k,hk⟩:∃k,wholeF (a::r)=k+1:=⟨wholeF (a::r) - 1,by omega⟩
   rw [hk];rfl
 have e2:wholeF (s.take (wholeF s)++u)=if wholeF s=0 then 0 else if s.head? =some 48 then 1 else wholeF s:=by
  rw [wholeF,e,hh]
 rw [e2,if_neg h]
 by_cases h8:s.head? =some 48
 ·rw [if_pos h8]
  unfold wholeF at h ⊢
  rw [if_pos h8]at h ⊢
  split
  ·rename_i h0
   rw [if_pos h0]at h
   exact absurd rfl h
  ·rfl
 ·rw [if_neg h8]
theorem qvl {s u:List UInt8} (hu:digF u=0) (h:fracF s≠0):fracF (s.take (fracF s)++u)=fracF s:=by
 match s with
 | []=> exact absurd rfl h
 | a::r=>
  rw [fracF]at h ⊢
  split at h
  ·rename_i ha
   rw [if_pos ha,Nat.add_comm,List.take_succ_cons,List.cons_append,fracF,qhg hu r _ (Nat.le_refl _),if_pos ha,Nat.add_comm]
  ·exact absurd rfl h
theorem qzv (r:List UInt8) (h:digF (r.drop (signF r))≠0) (u:List UInt8):signF (r.take (signF r)++((r.drop (signF r)).take (digF (r.drop (signF r)))++u))=signF r:=by
 match r with
 | []=> exact absurd rfl h
 | a::t=>
  rw [signF]at h ⊢
  split
  ·rename_i ha
   rw [List.take_succ_cons,List.cons_append,signF,if_pos ha]
  ·rename_i ha
   rw [if_neg ha,List.drop_zero]at h
   obtain ⟨k,hk⟩:∃k,digF (a::t)=k+1:=⟨digF (a::t) - 1,by omega⟩
   rw [List.drop_zero,hk,List.take_zero,List.nil_append,List.take_succ_cons,List.cons_append,signF,if_neg ha]
theorem qfb (r:List UInt8):signF r≤r.length:=by
 match r with
 | []=> exact Nat.le_refl _
 | a::t=>
  rw [signF,List.length_cons];split <;> omega
theorem qx4 {s u:List UInt8} (hu:digF u=0) (h:expF s≠0):expF (s.take (expF s)++u)=expF s:=by
 match s with
 | []=> exact absurd rfl h
 | a::r=>
  rw [expF]at h ⊢
  split at h
  ·rename_i ha
   rw [if_pos ha];have e1:(a::r).take (1+signF r+digF (r.drop (signF r)))++u=a::(r.take (signF r)++((r.drop (signF r)).take (digF (r.drop (signF r)))++u)):=by
    rw [show 1+signF r+digF (r.drop (signF r))=(signF r+digF (r.drop (signF r)))+1 by omega,List.take_succ_cons,List.take_add,List.cons_append,List.append_assoc]
   have e2:(r.take (signF r)++((r.drop (signF r)).take (digF (r.drop (signF r)))++u)).drop (signF r)=(r.drop (signF r)).take (digF (r.drop (signF r)))++u:=
    List.drop_left' (by rw [List.length_take];have:=qfb r;omega)
   rw [e1,expF,qzv r ha.2 u,e2,qhg hu _ _ (Nat.le_refl _),if_pos ha]
  ·exact absurd rfl h
theorem qyw {s:List UInt8} (h:expF s≠0) (u:List UInt8):digF (s.take (expF s)++u)=0∧fracF (s.take (expF s)++u)=0:=by
 match s with
 | []=> exact absurd rfl h
 | a::r=>
  obtain ⟨k,hk⟩:∃k,expF (a::r)=k+1:=⟨expF (a::r) - 1,by omega⟩
  rw [hk,List.take_succ_cons,List.cons_append];rw [expF]at h
  split at h
  ·rename_i ha
   have hd:isD a=false:=by rcases ha.1 with rfl | rfl <;> decide
   have h46:a≠46:=by rcases ha.1 with rfl | rfl <;> decide
   exact ⟨qf7 hd,by rw [fracF,if_neg (fun e=> h46 e.1)]⟩
  ·exact absurd rfl h
theorem qx3 {s:List UInt8} (h:fracF s≠0) (u:List UInt8):digF (s.take (fracF s)++u)=0:=by
 match s with
 | []=> exact absurd rfl h
 | a::r=>
  obtain ⟨k,hk⟩:∃k,fracF (a::r)=k+1:=⟨fracF (a::r) - 1,by omega⟩
  rw [hk,List.take_succ_cons,List.cons_append];rw [fracF]at h
  split at h
  ·rename_i ha
   exact qf7 (by rw [ha.1];decide)
  ·exact absurd rfl h
structure Stops (u:List UInt8):Prop where
 dig:digF u=0
 frac:fracF u=0
 exp:expF u=0
theorem qnm:Stops []:=⟨rfl,rfl,rfl⟩
theorem qip (s:List UInt8):expF s≤s.length:=by
 match s with
 | []=> exact Nat.le_refl _
 | a::r=>
  have h1:=qb5 (r.drop (signF r))
  rw [List.length_drop]at h1
  have h2:=qfb r
  rw [expF,List.length_cons];split <;> omega
theorem qfi (s:List UInt8):fracF s≤s.length:=by
 match s with
 | []=> exact Nat.le_refl _
 | a::r=>
  have h1:=qb5 r
  rw [fracF,List.length_cons];split <;> omega
theorem qzd {s u:List UInt8} (hu:Stops u) (h:posF s≠0):posF (s.take (posF s)++u)=posF s:=by
 unfold posF at h
 by_cases hw:wholeF s=0
 ·rw [if_pos hw]at h
  exact absurd rfl h
 clear h
 have hp:posF s=wholeF s+fracF (s.drop (wholeF s))+expF (s.drop (wholeF s+fracF (s.drop (wholeF s)))):=by
  rw [posF,if_neg hw]
 have hwl:=Nat.le_trans (qdw s) (qb5 s)
 obtain ⟨w,ew⟩:∃w,w=wholeF s:=⟨_,rfl⟩
 obtain ⟨f,ef⟩:∃f,f=fracF (s.drop w):=⟨_,rfl⟩
 obtain ⟨e,ee⟩:∃e,e=expF (s.drop (w+f)):=⟨_,rfl⟩
 rw [←ew,←ef,←ee]at hp
 have hfl:=qfi (s.drop w)
 rw [List.length_drop,←ef]at hfl
 have hel:=qip (s.drop (w+f))
 rw [List.length_drop,←ee]at hel
 have hY:expF ((s.drop (w+f)).take e++u)=e∧digF ((s.drop (w+f)).take e++u)=0∧fracF ((s.drop (w+f)).take e++u)=0:=by
  by_cases h0:e=0
  ·rw [h0,List.take_zero,List.nil_append]
   exact ⟨hu.exp,hu.dig,hu.frac⟩
  ·rw [ee]at h0 ⊢
   exact ⟨qx4 hu.dig h0,qyw h0 u⟩
 obtain ⟨Y,hYe⟩:∃Y,Y=(s.drop (w+f)).take e++u:=⟨_,rfl⟩
 rw [←hYe]at hY
 have hX:fracF ((s.drop w).take f++Y)=f∧digF ((s.drop w).take f++Y)=0:=by
  by_cases h0:f=0
  ·rw [h0,List.take_zero,List.nil_append]
   exact ⟨hY.2.2,hY.2.1⟩
  ·rw [ef]at h0 ⊢
   exact ⟨qvl hY.2.1 h0,qx3 h0 Y⟩
 have hs:s.take (posF s)++u=s.take w++((s.drop w).take f++Y):=by
  rw [hp,hYe,Nat.add_assoc,List.take_add,List.take_add,List.drop_drop,List.append_assoc,List.append_assoc]
 have hW:wholeF (s.take w++((s.drop w).take f++Y))=w:=by
  have:=quv (s:=s) (u:=(s.drop w).take f++Y) hX.2 hw
  rw [←ew]at this
  exact this
 have d1:(s.take w++((s.drop w).take f++Y)).drop w=(s.drop w).take f++Y:=List.drop_left' (by rw [List.length_take];omega)
 have d2:(s.take w++((s.drop w).take f++Y)).drop (w+f)=Y:=by
  rw [←List.drop_drop,d1];exact List.drop_left' (by rw [List.length_take,List.length_drop];omega)
 rw [hs,posF,hW,if_neg (by omega),d1,hX.1,d2,hY.1,hp]
theorem qx9 {s:List UInt8} (h:posF s≠0):∃a r,s=a::r∧isD a=true:=by
 match s with
 | []=> exact absurd rfl h
 | a::r=>
  refine ⟨a,r,rfl, ?_⟩
  cases ha:isD a with
  | true=> rfl
  | false=>
   have:posF (a::r)=0:=by
    have e:wholeF (a::r)=0:=by rw [wholeF,if_pos (qf7 ha)]
    rw [posF,if_pos e]
   exact absurd this h
theorem qp5 {s u:List UInt8} (hu:Stops u) (h:numF s≠0):numF (s.take (numF s)++u)=numF s:=by
 unfold numF at h
 by_cases hp:posF (s.drop (minF s))=0
 ·rw [if_pos hp]at h
  exact absurd rfl h
 clear h
 have hn:numF s=minF s+posF (s.drop (minF s)):=by rw [numF,if_neg hp]
 have ht:=qzd hu hp
 match s with
 | []=> exact absurd rfl hp
 | a::r=>
  by_cases ha:a=45
  ·have e:minF (a::r)=1:=by rw [minF,if_pos ha]
   rw [e,List.drop_succ_cons,List.drop_zero]at hp hn ht
   rw [hn,Nat.add_comm,List.take_succ_cons,List.cons_append,numF,minF,if_pos ha,List.drop_succ_cons,List.drop_zero,ht,if_neg hp,Nat.add_comm]
  ·have e:minF (a::r)=0:=by rw [minF,if_neg ha]
   rw [e,List.drop_zero,Nat.zero_add]at hn
   rw [e,List.drop_zero]at hp ht
   obtain ⟨k,hk⟩:∃k,posF (a::r)=k+1:=⟨posF (a::r) - 1,by omega⟩
   have em:minF ((a::r).take (posF (a::r))++u)=0:=by rw [hk,List.take_succ_cons,List.cons_append,minF,if_neg ha]
   rw [hn,numF,em,List.drop_zero,ht,if_neg hp,Nat.zero_add]
theorem qkw (s:List UInt8):numF s≤s.length:=by
 by_cases h:numF s=0
 ·omega
 ·have hm:minF s≤s.length:=by
   match s with
   | []=> exact Nat.le_refl _
   | a::r=> rw [minF,List.length_cons];split <;> omega
  unfold numF;split
  ·omega
  unfold posF;split
  ·omega
  have h1:=Nat.le_trans (qdw (s.drop (minF s))) (qb5 _)
  have h2:=qfi ((s.drop (minF s)).drop (wholeF (s.drop (minF s))))
  have h3:=qip ((s.drop (minF s)).drop (wholeF (s.drop (minF s))+fracF ((s.drop (minF s)).drop (wholeF (s.drop (minF s))))))
  rw [List.length_drop]at h1
  rw [List.length_drop,List.length_drop]at h2 h3
  omega
end Jt
namespace Jt
def natT (n:Nat):List UInt8:=if n < 10 then [UInt8.ofNat (48+n)] else natT (n / 10)++[UInt8.ofNat (48+n % 10)]
termination_by n
decreasing_by omega
def textF (n:Int):List UInt8:=if n < 0 then 45::natT n.natAbs else natT n.natAbs
def valF (s:List UInt8):Nat:=s.foldl (fun v a=> v*10+(a.toNat - 48)) 0
def intF (s:List UInt8):Option Int:=
 if s=[]∨s=[45,48]∨numF s≠s.length∨(s.drop (minF s)).all isD=false then none
 else if minF s=1 then (if valF (s.drop 1)≤9223372036854775808 then some (-(valF (s.drop 1):Int)) else none)
 else (if valF s≤9223372036854775807 then some (valF s:Int) else none)
end Jt
end Go.Proofs.YtgmangikcfakgaaGreatDoor
