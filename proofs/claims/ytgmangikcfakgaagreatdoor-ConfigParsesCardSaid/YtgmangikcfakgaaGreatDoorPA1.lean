import Derived.Test.YtgmangikcfakgaaGreatDoorPA0
import Derived.Lib.ParseIntB
import Derived.Lib.RuneBytes
import Derived.Lib.Bytealg
set_option maxRecDepth 100000
set_option maxHeartbeats 40000000
namespace Go.Proofs.YtgmangikcfakgaaGreatDoor
open Go
namespace Jt
theorem qy6 (a:UInt8) (r:List UInt8):minF (a::r)=if a=45 then 1 else 0:=rfl
theorem qwu {s r t u:List UInt8} (hr:r=s.drop (minF s)) (hw:digF r≠0) (ht:t=r.drop (wholeF r)) (hu:u=t.drop (fracF t)):numF s=s.length - (u.drop (expF u)).length∧(u.drop (expF u)).length≤s.length:=by
 have hwh:wholeF r≠0:=by
  unfold wholeF;rw [if_neg hw];split <;> omega
 have hp:posF r=wholeF r+fracF t+expF u:=by
  rw [posF,if_neg hwh,←ht,←List.drop_drop,←ht,←hu]
 have hm:minF s≤s.length:=by
  match s with
  | []=> exact Nat.le_refl _
  | a::r=> rw [minF,List.length_cons];split <;> omega
 have l1:r.length=s.length - minF s:=by rw [hr,List.length_drop]
 have l2:t.length=r.length - wholeF r:=by rw [ht,List.length_drop]
 have l3:u.length=t.length - fracF t:=by rw [hu,List.length_drop]
 have l4:(u.drop (expF u)).length=u.length - expF u:=List.length_drop
 have b1:=Nat.le_trans (qdw r) (qb5 r)
 have b2:=qfi t
 have b3:=qip u
 rw [numF,←hr,hp,if_neg (by omega)]
 omega
theorem qpg {s:List UInt8} (hw:digF (s.drop (minF s))=0):numF s=0:=by
 have h:wholeF (s.drop (minF s))=0:=by rw [wholeF,if_pos hw]
 rw [numF,posF,if_pos h,if_pos rfl]
end Jt
namespace Jt
theorem q25 (l:List UInt8) (i k:Nat):((⟨l.toArray⟩:ByteArray).get! (i+k))=(l.drop i).getD k 0:=by
 show l.toArray[i+k]! =_
 simp [List.getD]
 rfl
theorem qka (b:UInt8):(b.toNat / 64==2)=goes b:=by
 by_cases h:128≤b.toNat∧b.toNat≤191
 ·rw [qat.2 h,beq_iff_eq]
  omega
 ·have e:goes b=false:=by
   cases hg:goes b with
   | true=> exact absurd (qat.1 hg) h
   | false=> rfl
  rw [e,beq_eq_false_iff_ne];omega
theorem qe7 (n:Nat) (h:n < 1114112):Utf8.valid (n:Int)=scalar n:=by
 unfold Utf8.valid scalar
 have e1:decide ((0:Int)≤(n:Int))=true:=decide_eq_true (by omega)
 have e2:decide ((n:Int) < 55296)=decide (n < 55296):=by simp [←Int.ofNat_lt]
 have e3:decide ((57344:Int)≤(n:Int))=decide (57344≤n):=by simp [←Int.ofNat_le]
 have e4:decide ((n:Int)≤1114111)=decide (n≤1114111):=by simp [←Int.ofNat_le]
 rw [e1,e2,e3,e4,Bool.true_and]
theorem qvd {n:Nat} (h:scalar n=true):Utf8.encode (n:Int)=⟨(bytesF n).toArray⟩:=by
 have hs:=qal.1 h
 unfold Utf8.encode bytesF
 rw [qe7 n (by omega),h,if_pos rfl,Int.toNat_natCast]
 simp only
 split
 ·rfl
 split
 ·rfl
 split
 ·rfl
 ·rfl
def machF (a:UInt8) (r:List UInt8):Nat×Nat:=
 let at' (k:Nat):Nat:=((a::r).getD k 0).toNat
 let cont (k:Nat):Bool:=decide (k < (a::r).length) && at' k / 64==2
 let b0:=at' 0
 if b0 < 0x80 then (b0,1)
 else if b0 / 32==6 && cont 1 then
  let c:=(b0 % 32)*64+at' 1 % 64
  if c≥0x80 then (c,2) else (65533,1)
 else if b0 / 16==14 && cont 1 && cont 2 then
  let c:=(b0 % 16)*4096+(at' 1 % 64)*64+at' 2 % 64
  if c≥0x800 && Utf8.valid c then (c,3) else (65533,1)
 else if b0 / 8==30 && cont 1 && cont 2 && cont 3 then
  let c:=(b0 % 8)*262144+(at' 1 % 64)*4096+(at' 2 % 64)*64+at' 3 % 64
  if c≥0x10000 && Utf8.valid c then (c,4) else (65533,1)
 else (65533,1)
theorem qra {l:List UInt8} {i:Nat} {a:UInt8} {r:List UInt8} (h:l.drop i=a::r):Utf8.decode ⟨l.toArray⟩ i=machF a r:=by
 have hg:∀k,((⟨l.toArray⟩:ByteArray).get! (i+k))=(a::r).getD k 0:=fun k=> by rw [q25,h]
 have hl:l.length=i+(a::r).length:=by
  have:=congrArg List.length h
  rw [List.length_drop]at this
  rw [List.length_cons]at this ⊢
  omega
 have hs:∀k,decide (i+k < (⟨l.toArray⟩:ByteArray).size)=decide (k < (a::r).length):=fun k=> by
  have e:(⟨l.toArray⟩:ByteArray).size=l.length:=rfl
  rw [e,hl];simp
 unfold Utf8.decode machF
 simp only [hg,hs]
 rfl
def orBad (p:Nat×Nat):Nat×Nat:=if p.2=0 then (65533,1) else p
theorem q3e (a:UInt8):(a.toNat / 32==6)=decide (192≤a.toNat∧a.toNat < 224):=by
 by_cases h:192≤a.toNat∧a.toNat < 224
 ·rw [decide_eq_true h,beq_iff_eq];omega
 ·rw [decide_eq_false h,beq_eq_false_iff_ne];omega
theorem q27 (a:UInt8):(a.toNat / 16==14)=decide (224≤a.toNat∧a.toNat < 240):=by
 by_cases h:224≤a.toNat∧a.toNat < 240
 ·rw [decide_eq_true h,beq_iff_eq];omega
 ·rw [decide_eq_false h,beq_eq_false_iff_ne];omega
theorem div_8 (a:UInt8):(a.toNat / 8==30)=decide (240≤a.toNat∧a.toNat < 248):=by
 by_cases h:240≤a.toNat∧a.toNat < 248
 ·rw [decide_eq_true h,beq_iff_eq];omega
 ·rw [decide_eq_false h,beq_eq_false_iff_ne];omega
theorem q05 (a:UInt8) (r:List UInt8):machF a r=orBad (charF (a::r)):=by
 have la:=a.toNat_lt
 rw [charF]
 unfold machF
 simp only [List.getD_cons_zero,q3e,q27,div_8]
 by_cases h1:a.toNat < 128
 ·rw [if_pos h1,if_pos h1]
  rfl
 rw [if_neg h1,if_neg h1]
 by_cases h2:192≤a.toNat∧a.toNat < 224
 ·rw [if_pos h2]
  have g3:¬(224≤a.toNat∧a.toNat < 240):=by omega
  have g4:¬(240≤a.toNat∧a.toNat < 248):=by omega
  rw [decide_eq_true h2,decide_eq_false g3,decide_eq_false g4];match r with
  | []=> rfl
  | b::t=>
   rw [char2];have e:a.toNat % 32*64+b.toNat % 64=two a b∨goes b=false:=by
    cases hg:goes b with
    | false=> exact .inr rfl
    | true=>
     have:=qat.1 hg
     left
     unfold two;omega
   simp only [List.getD_cons_succ,List.getD_cons_zero,qka,List.length_cons,Bool.true_and,Bool.false_and]
   have hl:decide (1 < t.length+1+1)=true:=decide_eq_true (by omega)
   rw [hl];cases hg:goes b with
   | false=> simp [orBad]
   | true=>
    rw [hg]at e
    have e:=e.resolve_right (by decide)
    rw [e];by_cases h3:128≤two a b
    ·simp [orBad,h3]
    ·simp [orBad,h3]
 rw [if_neg h2]
 by_cases h3:224≤a.toNat∧a.toNat < 240
 ·rw [if_pos h3]
  have g4:¬(240≤a.toNat∧a.toNat < 248):=by omega
  rw [decide_eq_false h2,decide_eq_true h3,decide_eq_false g4];match r with
  | []=> rfl
  | [_]=> simp [orBad,char3]
  | b::c::t=>
   rw [char3];simp only [List.getD_cons_succ,List.getD_cons_zero,qka,List.length_cons,Bool.true_and,Bool.false_and]
   have hl:decide (1 < t.length+1+1+1)=true:=decide_eq_true (by omega)
   have hl2:decide (2 < t.length+1+1+1)=true:=decide_eq_true (by omega)
   rw [hl,hl2];cases hg:goes b with
   | false=> simp [orBad]
   | true=>
    cases hh:goes c with
    | false=> simp [orBad]
    | true=>
     have k1:=qat.1 hg
     have k2:=qat.1 hh
     have e:a.toNat % 16*4096+b.toNat % 64*64+c.toNat % 64=three a b c:=by
      unfold three;omega
     rw [e,qe7 _ (by unfold three;omega)]
     by_cases h5:2048≤three a b c
     ·cases h6:scalar (three a b c)with
      | true=> simp [orBad,h5]
      | false=> simp [orBad]
     ·simp [orBad,h5]
 rw [if_neg h3]
 by_cases h4:240≤a.toNat∧a.toNat < 248
 ·rw [if_pos h4]
  rw [decide_eq_false h2,decide_eq_false h3,decide_eq_true h4];match r with
  | []=> rfl
  | [_]=> simp [orBad,char4]
  | [_,_]=> simp [orBad,char4]
  | b::c::d::t=>
   rw [char4];simp only [List.getD_cons_succ,List.getD_cons_zero,qka,List.length_cons,Bool.true_and,Bool.false_and]
   have hl:decide (1 < t.length+1+1+1+1)=true:=decide_eq_true (by omega)
   have hl2:decide (2 < t.length+1+1+1+1)=true:=decide_eq_true (by omega)
   have hl3:decide (3 < t.length+1+1+1+1)=true:=decide_eq_true (by omega)
   rw [hl,hl2,hl3];cases hg:goes b with
   | false=> simp [orBad]
   | true=>
    cases hh:goes c with
    | false=> simp [orBad]
    | true=>
     cases hi:goes d with
     | false=> simp [orBad]
     | true=>
      have k1:=qat.1 hg
      have k2:=qat.1 hh
      have k3:=qat.1 hi
      have e:a.toNat % 8*262144+b.toNat % 64*4096+c.toNat % 64*64+d.toNat % 64=four a b c d:=by
       unfold four;omega
      rw [e];by_cases h5:65536≤four a b c d
      ·have hv:Utf8.valid ((four a b c d:Nat):Int)=scalar (four a b c d):=by
        by_cases h7:four a b c d < 1114112
        ·exact qe7 _ h7
        ·have e1:scalar (four a b c d)=false:=by
          cases hx:scalar (four a b c d)with
          | false=> rfl
          | true=> have:=qal.1 hx;omega
         rw [e1];unfold Utf8.valid;have e2:decide (((four a b c d:Nat):Int) < 55296)=false:=decide_eq_false (by omega)
         have e3:decide (((four a b c d:Nat):Int)≤1114111)=false:=decide_eq_false (by omega)
         rw [e2,e3,Bool.and_false,Bool.and_false];rfl
       rw [hv];cases h6:scalar (four a b c d)with
       | true=> simp [orBad,h5]
       | false=> simp [orBad]
      ·simp [orBad,h5]
 rw [if_neg h4]
 rw [decide_eq_false h2,decide_eq_false h3,decide_eq_false h4]
 rfl
theorem qnp {l:List UInt8} {i:Nat} {a:UInt8} {r:List UInt8} (h:l.drop i=a::r):Utf8.decode ⟨l.toArray⟩ i=orBad (charF (a::r)):=by
 rw [qra h,q05]
end Jt
namespace Jt
theorem byteI (n:Nat) (z:Int) (h:z=(n:Int)):z.toNat.toUInt8=UInt8.ofNat n:=by
 rw [h,Int.toNat_natCast]
theorem q2w {n:Nat} (h:scalar n=true):Lib.encodeRune (n:Int)=bytesF n:=by
 have hs:=qal.1 h
 unfold bytesF Lib.encodeRune
 split
 ·rw [Lib.encodeRuneZ_one (by omega) (by omega),List.map_cons,List.map_nil,byteI n _ rfl]
 split
 ·rw [Lib.encodeRuneZ_two (by omega) (by omega),List.map_cons,List.map_cons,List.map_nil,byteI (192+n / 64) _ (by omega),byteI (128+n % 64) _ (by omega)]
 split
 ·rw [Lib.encodeRuneZ_three (by omega),List.map_cons,List.map_cons,List.map_cons,List.map_nil,byteI (224+n / 4096) _ (by omega),byteI (128+n / 64 % 64) _ (by omega),byteI (128+n % 64) _ (by omega)]
 ·rw [Lib.encodeRuneZ_four (by omega) (by omega),List.map_cons,List.map_cons,List.map_cons,List.map_cons,List.map_nil,byteI (240+n / 262144) _ (by omega),byteI (128+n / 4096 % 64) _ (by omega),byteI (128+n / 64 % 64) _ (by omega),byteI (128+n % 64) _ (by omega)]
structure Told (l:List UInt8) (i n k:Nat):Prop where
 ok:scalar n=true
 pos:1≤k
 le:i+k≤l.length
 cells:n < 128→k=1
 few:k≤4
theorem qh2 (s:List UInt8):(charF s).2≤4:=by
 by_cases h:(charF s).2=0
 ·omega
 ·obtain ⟨_,h2,_⟩:=qcy h
  rw [h2];unfold bytesF;split
  ·exact Nat.le_of_ble_eq_true rfl
  split
  ·exact Nat.le_of_ble_eq_true rfl
  split
  ·exact Nat.le_of_ble_eq_true rfl
  ·exact Nat.le_refl _
theorem qiz {l:List UInt8} {i:Nat} {a:UInt8} {r:List UInt8} (h:l.drop i=a::r):Told l i (orBad (charF (a::r))).1 (orBad (charF (a::r))).2:=by
 have hl:=congrArg List.length h
 rw [List.length_drop,List.length_cons]at hl
 unfold orBad
 by_cases hz:(charF (a::r)).2=0
 ·rw [if_pos hz]
  exact ⟨by show scalar 65533=true;decide,Nat.le_refl _,by show i+1≤_;omega,fun h=> absurd h (by show ¬(65533:Nat) < 128;omega),by show (1:Nat)≤4;omega⟩
 ·rw [if_neg hz]
  obtain ⟨h1,h2,t,h3⟩:=qcy hz
  have hb:=qca (charF (a::r)).1
  have h4:=congrArg List.length h3
  rw [List.length_append,List.length_cons]at h4
  refine ⟨h1,by omega,by omega,fun hn=> ?_,qh2 _⟩
  rw [h2];unfold bytesF;rw [if_pos hn];rfl
def qF (n:Nat):List UInt8:=if n < 128 then oneF n else bytesF n
theorem qt2 {l:List UInt8} {i:Nat} {a:UInt8} {r:List UInt8} (h:l.drop i=a::r):quoteB (l.drop i)=qF (orBad (charF (a::r))).1++quoteB (l.drop (i+(orBad (charF (a::r))).2)):=by
 have hd:∀k,l.drop (i+k)=(a::r).drop k:=fun k=> by rw [←h,List.drop_drop]
 rw [h,hd]
 unfold orBad
 by_cases hz:(charF (a::r)).2=0
 ·rw [if_pos hz,qik hz]
  rfl
 ·rw [if_neg hz,quoteB,if_neg hz]
  rw [show (a::r).drop (charF (a::r)).2=r.drop ((charF (a::r)).2 - 1) by
   conv=> lhs;rw [show (charF (a::r)).2=((charF (a::r)).2 - 1)+1 by omega,List.drop_succ_cons]]
  rfl
def marks:List UInt8:=[34,92,8,12,10,13,9]
def lets:List UInt8:=[34,92,98,102,110,114,116,47]
def means:List UInt8:=[34,92,8,12,10,13,9,47]
structure OneIs (n:Nat) (z:Int):Prop where
 lo: -1≤z
 hi:z≤6
 yes:∀j:Nat,z=(j:Int)→oneF n=[92,lets.getD j 0]
 hex:z= -1→n < 32→oneF n=[92,117,48,48,hexd (n / 16),hexd (n % 16)]
 no:z= -1→¬n < 32→oneF n=[UInt8.ofNat n]
theorem q2x {n:Nat} (h:n < 128):OneIs n (Lib.indexByte marks (UInt8.ofNat n)):=by
 have key:∀n:Fin 128,(-1≤Lib.indexByte marks (UInt8.ofNat n.1)∧Lib.indexByte marks (UInt8.ofNat n.1)≤6)∧(∀j:Fin 7,Lib.indexByte marks (UInt8.ofNat n.1)=(j.1:Int)→oneF n.1=[92,lets.getD j.1 0])∧(Lib.indexByte marks (UInt8.ofNat n.1)= -1→n.1 < 32→oneF n.1=[92,117,48,48,hexd (n.1 / 16),hexd (n.1 % 16)])∧(Lib.indexByte marks (UInt8.ofNat n.1)= -1→¬n.1 < 32→oneF n.1=[UInt8.ofNat n.1]):=by decide
 obtain ⟨⟨h1,h2⟩,h3,h4,h5⟩:=key ⟨n,h⟩
 refine ⟨h1,h2,fun j e=> h3 ⟨j, ?_⟩ e,h4,h5⟩
 have h2':Lib.indexByte marks (UInt8.ofNat n)≤6:=h2
 omega
def unitN:List UInt8→Option Nat
 | x::y::r=> if x=92∧y=117 then hex4 r else none
 | _=> none
def pairN (n:Nat) (s:List UInt8):Option (Nat×Nat):=
 (unitN s).bind fun m=> if 56320≤n∨m < 56320∨57344≤m then none else some (65536+(n - 55296)*1024+(m - 56320),12)
def uniN (s:List UInt8):Option (Nat×Nat):=
 (unitN s).bind fun n=> if n < 55296∨57344≤n then some (n,6) else pairN n (s.drop 6)
def escN (s:List UInt8):Option (Nat×Nat):=
 if s.take 2=[92,117] then uniN s
 else match s with
 | _::a::_=> if Lib.indexByte lets a < 0 then none else some ((means.getD (Lib.indexByte lets a).toNat 0).toNat,2)
 | _=> none
theorem qw9 (a:UInt8) (h:a≠117) (r:List UInt8):escF (a::r)=(if Lib.indexByte lets a < 0 then none else some (bytesF (means.getD (Lib.indexByte lets a).toNat 0).toNat,1)):=by
 have hx:∀u,escF (a::r)=some u→True:=fun _ _=> trivial
 by_cases a1:a=98
 ·subst a1;rfl
 by_cases a2:a=116
 ·subst a2;rfl
 by_cases a3:a=110
 ·subst a3;rfl
 by_cases a4:a=102
 ·subst a4;rfl
 by_cases a5:a=114
 ·subst a5;rfl
 by_cases a6:a=34
 ·subst a6;rfl
 by_cases a7:a=47
 ·subst a7;rfl
 by_cases a8:a=92
 ·subst a8;rfl
 rw [escF,if_neg a1,if_neg a2,if_neg a3,if_neg a4,if_neg a5,if_neg a6,if_neg a7,if_neg a8,if_neg h]
 have e:Lib.indexByte lets a= -1:=by
  have nb:∀ {x:UInt8},a≠x→((x==a)=false):=fun {x} hne=> beq_eq_false_iff_ne.2 (Ne.symm hne)
  unfold lets;simp only [Lib.indexByte,nb a1,nb a2,nb a3,nb a4,nb a5,nb a6,nb a7,nb a8]
  rfl
 rw [e]
 rfl
theorem q2y {n:Nat} (h:¬56319 < n) (s:List UInt8):lowF n s=(pairN n s).map fun p=> (bytesF p.1,p.2 - 1):=by
 have h2:¬56320≤n:=by omega
 unfold pairN
 match s with
 | []=> rfl
 | [_]=> rfl
 | x::y::r=>
  rw [lowF,unitN];by_cases hx:x=92∧y=117
  ·rw [if_pos hx,if_pos hx]
   cases hq:hex4 r with
   | none=> rfl
   | some m=>
    show (if 56320≤m∧m≤57343 then _ else _)=Option.map _ (if 56320≤n∨m < 56320∨57344≤m then none else _)
    by_cases hm:56320≤m∧m≤57343
    ·rw [if_pos hm,if_neg (by omega)]
     rfl
    ·rw [if_neg hm,if_pos (by omega)]
     rfl
  ·rw [if_neg hx,if_neg hx]
   rfl
theorem qpd (r:List UInt8):escF r=(escN (92::r)).map fun p=> (bytesF p.1,p.2 - 1):=by
 match r with
 | []=> rfl
 | a::r=>
  unfold escN;by_cases ha:a=117
  ·subst ha
   have ht:(92::117::r).take 2=[92,117]:=rfl
   rw [if_pos ht];have e:escF (117::r)=(hex4 r).bind fun n=> if n < 55296∨57343 < n then some (bytesF n,5) else if 56319 < n then none else lowF n (r.drop 4):=rfl
   rw [e];unfold uniN;have e2:unitN (92::117::r)=hex4 r:=rfl
   rw [e2];cases hq:hex4 r with
   | none=> rfl
   | some n=>
    show (if n < 55296∨57343 < n then _ else _)=Option.map _ (if n < 55296∨57344≤n then _ else _)
    by_cases hn:n < 55296∨57343 < n
    ·rw [if_pos hn,if_pos (by omega)]
     rfl
    ·have hn2:¬(n < 55296∨57344≤n):=by omega
     rw [if_neg hn,if_neg hn2];have e3:(92::117::r).drop 6=r.drop 4:=rfl
     rw [e3];by_cases hm:56319 < n
     ·rw [if_pos hm]
      have:pairN n (r.drop 4)=none:=by
       unfold pairN;cases unitN (r.drop 4)with
       | none=> rfl
       | some m=>
        show (if 56320≤n∨m < 56320∨57344≤m then none else _)=none
        rw [if_pos (by omega)]
      rw [this];rfl
     ·rw [if_neg hm]
      exact q2y hm _
  ·have ht:¬(92::a::r).take 2=[92,117]:=fun e=> ha (by
    have:[92,a]=[(92:UInt8),117]:=e
    injection this with _ h2
    injection h2)
   rw [if_neg ht,qw9 a ha r];show _=Option.map _ (if Lib.indexByte lets a < 0 then none else _)
   by_cases hi:Lib.indexByte lets a < 0
   ·rw [if_pos hi,if_pos hi]
    rfl
   ·rw [if_neg hi,if_neg hi]
    rfl
theorem qgs {c:UInt8} {d:Nat} (h:hexv c=some d):c.toNat < 128:=by
 unfold hexv at h
 split at h
 ·omega
 split at h
 ·omega
 split at h
 ·omega
 ·cases h
theorem qgx {s:List UInt8} {n:Nat} (h:unitN s=some n):n < 65536∧6≤s.length∧∀j,j < 6→(s.getD j 0).toNat < 128:=by
 match s with
 | []=> cases h
 | [_]=> cases h
 | x::y::r=>
  rw [unitN]at h
  split at h
  ·rename_i hx
   obtain ⟨h1,a,b,c,d,t,e,h2⟩:=qe9 h
   subst e;refine ⟨h1,by simp only [List.length_cons];omega, ?_⟩
   unfold hexq at h2;cases ha:hexv a with
   | none=> rw [ha]at h2;cases h2
   | some a'=>
    rw [ha]at h2
    cases hb:hexv b with
    | none=> rw [hb]at h2;cases h2
    | some b'=>
     rw [hb]at h2
     cases hc:hexv c with
     | none=> rw [hc]at h2;cases h2
     | some c'=>
      rw [hc]at h2
      cases hd:hexv d with
      | none=> rw [hd]at h2;cases h2
      | some d'=>
       intro j hj;have:=qgs ha
       have:=qgs hb
       have:=qgs hc
       have:=qgs hd
       match j,hj with
       | 0,_=> rw [hx.1];exact (by decide:(92:UInt8).toNat < 128)
       | 1,_=> rw [hx.2];exact (by decide:(117:UInt8).toNat < 128)
       | 2,_=> assumption
       | 3,_=> assumption
       | 4,_=> assumption
       | 5,_=> assumption
  ·cases h
structure EscIs (s:List UInt8) (c k:Nat):Prop where
 ok:scalar c=true
 two:2≤k
 le:k≤s.length
 low:∀j,j < k→(s.getD j 0).toNat < 128
theorem qnk (s:List UInt8) (i j:Nat):(s.drop i).getD j 0=s.getD (i+j) 0:=by
 rw [List.getD_eq_getElem?_getD,List.getD_eq_getElem?_getD,List.getElem?_drop]
theorem qhf {r:List UInt8} {c k:Nat} (h:escN (92::r)=some (c,k)):EscIs (92::r) c k:=by
 unfold escN at h
 by_cases ht:(92::r).take 2=[92,117]
 ·rw [if_pos ht]at h
  unfold uniN at h;cases hu:unitN (92::r)with
  | none=> rw [hu]at h;cases h
  | some n=>
   rw [hu]at h
   have h:(if n < 55296∨57344≤n then some (n,6) else pairN n ((92::r).drop 6))=some (c,k):=h
   obtain ⟨g1,g2,g3⟩:=qgx hu
   by_cases hn:n < 55296∨57344≤n
   ·rw [if_pos hn]at h
    simp only [Option.some.injEq,Prod.mk.injEq]at h
    obtain ⟨rfl,rfl⟩:=h
    exact ⟨qal.2 (by omega),by omega,g2,g3⟩
   ·rw [if_neg hn]at h
    unfold pairN at h;cases hv:unitN ((92::r).drop 6)with
    | none=> rw [hv]at h;cases h
    | some m=>
     rw [hv]at h
     have h:(if 56320≤n∨m < 56320∨57344≤m then none else some (65536+(n - 55296)*1024+(m - 56320),12))=some (c,k):=h
     obtain ⟨f1,f2,f3⟩:=qgx hv
     rw [List.length_drop]at f2
     by_cases hm:56320≤n∨m < 56320∨57344≤m
     ·rw [if_pos hm]at h
      cases h
     ·rw [if_neg hm]at h
      simp only [Option.some.injEq,Prod.mk.injEq]at h
      obtain ⟨rfl,rfl⟩:=h
      refine ⟨qal.2 (by omega),by omega,by omega,fun j hj=> ?_⟩
      by_cases h6:j < 6
      ·exact g3 j h6
      ·have:=f3 (j - 6) (by omega)
       rw [qnk]at this
       rw [show 6+(j - 6)=j by omega]at this
       exact this
 ·rw [if_neg ht]at h
  match r with
  | []=> cases h
  | a::t=>
   have h:(if Lib.indexByte lets a < 0 then none else some ((means.getD (Lib.indexByte lets a).toNat 0).toNat,2))=some (c,k):=h
   by_cases hi:Lib.indexByte lets a < 0
   ·rw [if_pos hi]at h
    cases h
   ·rw [if_neg hi]at h
    simp only [Option.some.injEq,Prod.mk.injEq]at h
    obtain ⟨rfl,rfl⟩:=h
    have hm:∀j:Nat,(means.getD j 0).toNat < 128:=fun j=> by
     match j with
     | 0=> decide
     | 1=> decide
     | 2=> decide
     | 3=> decide
     | 4=> decide
     | 5=> decide
     | 6=> decide
     | 7=> decide
     | _+8=> exact (by decide:(0:UInt8).toNat < 128)
    have hl:Lib.indexByte lets a < 0∨a.toNat < 128:=by
     by_cases h128:a.toNat < 128
     ·exact .inr h128
     ·left
      have nb:∀ {x:UInt8},x.toNat < 128→((x==a)=false):=fun {x} hx=> beq_eq_false_iff_ne.2 (fun e=> h128 (by rw [←e];exact hx))
      have e:Lib.indexByte lets a= -1:=by
       unfold lets;simp only [Lib.indexByte,nb (x:=34) (by decide),nb (x:=92) (by decide),nb (x:=98) (by decide),nb (x:=102) (by decide),nb (x:=110) (by decide),nb (x:=114) (by decide),nb (x:=116) (by decide),nb (x:=47) (by decide)]
       rfl
      rw [e];decide
    refine ⟨qal.2 (by have:=hm (Lib.indexByte lets a).toNat;omega),Nat.le_refl _,by simp only [List.length_cons];omega,fun j hj=> ?_⟩
    match j,hj with
    | 0,_=> exact (by decide:(92:UInt8).toNat < 128)
    | 1,_=> exact hl.resolve_left hi
theorem qle {l:List UInt8} {i:Nat} {r:List UInt8} (h:l.drop i=34::r):unqB (l.drop i)=some ([],1):=by rw [h,ql7]
theorem qtk {l:List UInt8} {i:Nat} {r:List UInt8} (h:l.drop i=92::r) {c k:Nat} (he:escN (92::r)=some (c,k)):unqB (l.drop i)=(unqB (l.drop (i+k))).map fun p=> (bytesF c++p.1,k+p.2):=by
 have ht:=qhf he
 have e:=qpd r
 rw [he]at e
 have h2:=ht.two
 rw [h,qb8 e,←List.drop_drop,h,show k=(k - 1)+1 by omega,List.drop_succ_cons,Nat.add_sub_cancel,show 1+(k - 1)=k - 1+1 by omega]
theorem qq2 {l:List UInt8} {i:Nat} {r:List UInt8} (h:l.drop i=92::r) (he:escN (92::r)=none):unqB (l.drop i)=none:=by
 have e:=qpd r
 rw [he]at e
 rw [h,unqB,if_neg (by decide),if_pos rfl,e]
 rfl
theorem qkj {l:List UInt8} {i:Nat} {a:UInt8} {r:List UInt8} (h:l.drop i=a::r) (h34:a≠34) (h92:a≠92) (hb:(charF (a::r)).2=0∨(charF (a::r)).1 < 32):unqB (l.drop i)=none:=by
 rw [h,unqB,if_neg h34,if_neg h92,if_pos hb]
theorem qmu {l:List UInt8} {i:Nat} {a:UInt8} {r:List UInt8} (h:l.drop i=a::r) (h34:a≠34) (h92:a≠92) (hb:¬((charF (a::r)).2=0∨(charF (a::r)).1 < 32)):
  unqB (l.drop i)=(unqB (l.drop (i+(charF (a::r)).2))).map fun p=> (bytesF (charF (a::r)).1++p.1,(charF (a::r)).2+p.2):=by
 rw [←List.drop_drop,h]
 conv=> lhs;rw [unqB,if_neg h34,if_neg h92,if_neg hb]
 rw [show (a::r).drop (charF (a::r)).2=r.drop ((charF (a::r)).2 - 1) by
  conv=> lhs;rw [show (charF (a::r)).2=((charF (a::r)).2 - 1)+1 by omega,List.drop_succ_cons]]
theorem qfr {a:UInt8} {r:List UInt8} {c:UInt8} (hc:c.toNat < 128):(orBad (charF (a::r))).1=c.toNat↔a=c:=by
 unfold orBad
 constructor
 ·intro h
  by_cases hz:(charF (a::r)).2=0
  ·rw [if_pos hz]at h
   have:(65533:Nat)=c.toNat:=h
   omega
  ·rw [if_neg hz]at h
   obtain ⟨h1,h2,t,h3⟩:=qcy hz
   rw [h]at h3
   have e:bytesF c.toNat=[c]:=by
    unfold bytesF;rw [if_pos hc,ofN c _ rfl]
   rw [e]at h3
   injection h3
 ·intro h
  subst h;have e:charF (a::r)=(a.toNat,1):=by rw [charF,if_pos hc]
  rw [e];rfl
theorem qwj (a:UInt8) (r:List UInt8) (h:(orBad (charF (a::r))).1=65533):(charF (a::r)).2=0↔¬(a::r).take 3=[239,191,189]:=by
 constructor
 ·intro hz ht
  have e:a::r=bytesF 65533++(a::r).drop 3:=by
   rw [←qih,←ht,List.take_append_drop]
  have:=qkx (n:=65533) (by decide) ((a::r).drop 3)
  rw [←e]at this
  rw [this]at hz
  exact absurd hz (by decide)
 ·intro ht
  by_cases hz:(charF (a::r)).2=0
  ·exact hz
  ·exfalso
   unfold orBad at h;rw [if_neg hz]at h
   obtain ⟨h1,h2,t,h3⟩:=qcy hz
   rw [h,←qih]at h3
   exact ht (by rw [h3];rfl)
theorem qeq {p:Nat×Nat} (h:p.2≠0):orBad p=p:=by rw [orBad,if_neg h]
end Jt
end Go.Proofs.YtgmangikcfakgaaGreatDoor
