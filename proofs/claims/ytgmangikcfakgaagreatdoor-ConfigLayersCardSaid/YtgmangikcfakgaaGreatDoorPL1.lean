import Derived.Test.YtgmangikcfakgaaGreatDoorPL0
import Derived.Lib.ParseIntB
namespace Go.Proofs.YtgmangikcfakgaaGreatDoor
open Go
namespace Jt
theorem min_cons (a:UInt8) (r:List UInt8):minF (a::r)=if a=45 then 1 else 0:=rfl
theorem num_parts {s r t u:List UInt8} (hr:r=s.drop (minF s)) (hw:digF r≠0) (ht:t=r.drop (wholeF r)) (hu:u=t.drop (fracF t)):numF s=s.length - (u.drop (expF u)).length∧(u.drop (expF u)).length≤s.length:=by
 have hwh:wholeF r≠0:=by
  unfold wholeF
  rw [if_neg hw]
  split <;> omega
 have hp:posF r=wholeF r+fracF t+expF u:=by
  rw [posF,if_neg hwh,←ht,←List.drop_drop,←ht,←hu]
 have hm:minF s≤s.length:=by
  match s with
  | []=> exact Nat.le_refl _
  | a::r=> rw [minF,List.length_cons];split <;> omega
 have l1:r.length=s.length - minF s:=by rw [hr,List.length_drop]
 have l2:t.length=r.length - wholeF r:=by rw [ht,List.length_drop]
 have l3:u.length=t.length - fracF t:=by rw [hu,List.length_drop]
 have l4:(u.drop (expF u)).length=u.length - expF u:=List.length_drop
 have b1:=Nat.le_trans (whole_le r) (dig_le r)
 have b2:=frac_len t
 have b3:=exp_len u
 rw [numF,←hr,hp,if_neg (by omega)]
 omega
theorem num_none {s:List UInt8} (hw:digF (s.drop (minF s))=0):numF s=0:=by
 have h:wholeF (s.drop (minF s))=0:=by rw [wholeF,if_pos hw]
 rw [numF,posF,if_pos h,if_pos rfl]
end Jt
end Go.Proofs.YtgmangikcfakgaaGreatDoor
namespace Go.Proofs.YtgmangikcfakgaaGreatDoor
open Go
namespace Jt
theorem get_at (l:List UInt8) (i k:Nat):((⟨l.toArray⟩:ByteArray).get! (i+k))=(l.drop i).getD k 0:=by
 show l.toArray[i+k]! =_
 simp [List.getD]
 rfl
theorem goes_div (b:UInt8):(b.toNat / 64==2)=goes b:=by
 by_cases h:128≤b.toNat∧b.toNat≤191
 ·rw [goes_is.2 h,beq_iff_eq]
  omega
 ·have e:goes b=false:=by
   cases hg:goes b with
   | true=> exact absurd (goes_is.1 hg) h
   | false=> rfl
  rw [e,beq_eq_false_iff_ne]
  omega
theorem valid_scalar (n:Nat) (h:n < 1114112):Utf8.valid (n:Int)=scalar n:=by
 unfold Utf8.valid scalar
 have e1:decide ((0:Int)≤(n:Int))=true:=decide_eq_true (by omega)
 have e2:decide ((n:Int) < 55296)=decide (n < 55296):=by simp [←Int.ofNat_lt]
 have e3:decide ((57344:Int)≤(n:Int))=decide (57344≤n):=by simp [←Int.ofNat_le]
 have e4:decide ((n:Int)≤1114111)=decide (n≤1114111):=by simp [←Int.ofNat_le]
 rw [e1,e2,e3,e4,Bool.true_and]
theorem encode_is {n:Nat} (h:scalar n=true):Utf8.encode (n:Int)=⟨(bytesF n).toArray⟩:=by
 have hs:=scalar_is.1 h
 unfold Utf8.encode bytesF
 rw [valid_scalar n (by omega),h,if_pos rfl,Int.toNat_natCast]
 simp only
 split
 ·rfl
 split
 ·rfl
 split
 ·rfl
 ·rfl
def machF (a:UInt8) (r:List UInt8):Nat×Nat:=
 let at' (k:Nat):Nat:=((a::r).getD k 0).toNat
 let cont (k:Nat):Bool:=decide (k < (a::r).length) && at' k / 64==2
 let b0:=at' 0
 if b0 < 0x80 then (b0,1)
 else if b0 / 32==6 && cont 1 then
  let c:=(b0 % 32)*64+at' 1 % 64
  if c≥0x80 then (c,2) else (65533,1)
 else if b0 / 16==14 && cont 1 && cont 2 then
  let c:=(b0 % 16)*4096+(at' 1 % 64)*64+at' 2 % 64
  if c≥0x800 && Utf8.valid c then (c,3) else (65533,1)
 else if b0 / 8==30 && cont 1 && cont 2 && cont 3 then
  let c:=(b0 % 8)*262144+(at' 1 % 64)*4096+(at' 2 % 64)*64+at' 3 % 64
  if c≥0x10000 && Utf8.valid c then (c,4) else (65533,1)
 else (65533,1)
theorem decode_mach {l:List UInt8} {i:Nat} {a:UInt8} {r:List UInt8} (h:l.drop i=a::r):Utf8.decode ⟨l.toArray⟩ i=machF a r:=by
 have hg:∀k,((⟨l.toArray⟩:ByteArray).get! (i+k))=(a::r).getD k 0:=fun k=> by rw [get_at,h]
 have hl:l.length=i+(a::r).length:=by
  have:=congrArg List.length h
  rw [List.length_drop]at this
  rw [List.length_cons]at this ⊢
  omega
 have hs:∀k,decide (i+k < (⟨l.toArray⟩:ByteArray).size)=decide (k < (a::r).length):=fun k=> by
  have e:(⟨l.toArray⟩:ByteArray).size=l.length:=rfl
  rw [e,hl]
  simp
 unfold Utf8.decode machF
 simp only [hg,hs]
 rfl
def orBad (p:Nat×Nat):Nat×Nat:=if p.2=0 then (65533,1) else p
theorem div_32 (a:UInt8):(a.toNat / 32==6)=decide (192≤a.toNat∧a.toNat < 224):=by
 by_cases h:192≤a.toNat∧a.toNat < 224
 ·rw [decide_eq_true h,beq_iff_eq];omega
 ·rw [decide_eq_false h,beq_eq_false_iff_ne];omega
theorem div_16 (a:UInt8):(a.toNat / 16==14)=decide (224≤a.toNat∧a.toNat < 240):=by
 by_cases h:224≤a.toNat∧a.toNat < 240
 ·rw [decide_eq_true h,beq_iff_eq];omega
 ·rw [decide_eq_false h,beq_eq_false_iff_ne];omega
theorem div_8 (a:UInt8):(a.toNat / 8==30)=decide (240≤a.toNat∧a.toNat < 248):=by
 by_cases h:240≤a.toNat∧a.toNat < 248
 ·rw [decide_eq_true h,beq_iff_eq];omega
 ·rw [decide_eq_false h,beq_eq_false_iff_ne];omega
theorem mach_is (a:UInt8) (r:List UInt8):machF a r=orBad (charF (a::r)):=by
 have la:=a.toNat_lt
 rw [charF]
 unfold machF
 simp only [List.getD_cons_zero,div_32,div_16,div_8]
 by_cases h1:a.toNat < 128
 ·rw [if_pos h1,if_pos h1]
  rfl
 rw [if_neg h1,if_neg h1]
 by_cases h2:192≤a.toNat∧a.toNat < 224
 ·rw [if_pos h2]
  have g3:¬(224≤a.toNat∧a.toNat < 240):=by omega
  have g4:¬(240≤a.toNat∧a.toNat < 248):=by omega
  rw [decide_eq_true h2,decide_eq_false g3,decide_eq_false g4]
  match r with
  | []=> rfl
  | b::t=>
   rw [char2]
   have e:a.toNat % 32*64+b.toNat % 64=two a b∨goes b=false:=by
    cases hg:goes b with
    | false=> exact .inr rfl
    | true=>
     have:=goes_is.1 hg
     left
     unfold two
     omega
   simp only [List.getD_cons_succ,List.getD_cons_zero,goes_div,List.length_cons,Bool.true_and,Bool.false_and]
   have hl:decide (1 < t.length+1+1)=true:=decide_eq_true (by omega)
   rw [hl]
   cases hg:goes b with
   | false=> simp [orBad]
   | true=>
    rw [hg]at e
    have e:=e.resolve_right (by decide)
    rw [e]
    by_cases h3:128≤two a b
    ·simp [orBad,h3]
    ·simp [orBad,h3]
 rw [if_neg h2]
 by_cases h3:224≤a.toNat∧a.toNat < 240
 ·rw [if_pos h3]
  have g4:¬(240≤a.toNat∧a.toNat < 248):=by omega
  rw [decide_eq_false h2,decide_eq_true h3,decide_eq_false g4]
  match r with
  | []=> rfl
  | [_]=> simp [orBad,char3]
  | b::c::t=>
   rw [char3]
   simp only [List.getD_cons_succ,List.getD_cons_zero,goes_div,List.length_cons,Bool.true_and,Bool.false_and]
   have hl:decide (1 < t.length+1+1+1)=true:=decide_eq_true (by omega)
   have hl2:decide (2 < t.length+1+1+1)=true:=decide_eq_true (by omega)
   rw [hl,hl2]
   cases hg:goes b with
   | false=> simp [orBad]
   | true=>
    cases hh:goes c with
    | false=> simp [orBad]
    | true=>
     have k1:=goes_is.1 hg
     have k2:=goes_is.1 hh
     have e:a.toNat % 16*4096+b.toNat % 64*64+c.toNat % 64=three a b c:=by
      unfold three
      omega
     rw [e,valid_scalar _ (by unfold three;omega)]
     by_cases h5:2048≤three a b c
     ·cases h6:scalar (three a b c)with
      | true=> simp [orBad,h5]
      | false=> simp [orBad]
     ·simp [orBad,h5]
 rw [if_neg h3]
 by_cases h4:240≤a.toNat∧a.toNat < 248
 ·rw [if_pos h4]
  rw [decide_eq_false h2,decide_eq_false h3,decide_eq_true h4]
  match r with
  | []=> rfl
  | [_]=> simp [orBad,char4]
  | [_,_]=> simp [orBad,char4]
  | b::c::d::t=>
   rw [char4]
   simp only [List.getD_cons_succ,List.getD_cons_zero,goes_div,List.length_cons,Bool.true_and,Bool.false_and]
   have hl:decide (1 < t.length+1+1+1+1)=true:=decide_eq_true (by omega)
   have hl2:decide (2 < t.length+1+1+1+1)=true:=decide_eq_true (by omega)
   have hl3:decide (3 < t.length+1+1+1+1)=true:=decide_eq_true (by omega)
   rw [hl,hl2,hl3]
   cases hg:goes b with
   | false=> simp [orBad]
   | true=>
    cases hh:goes c with
    | false=> simp [orBad]
    | true=>
     cases hi:goes d with
     | false=> simp [orBad]
     | true=>
      have k1:=goes_is.1 hg
      have k2:=goes_is.1 hh
      have k3:=goes_is.1 hi
      have e:a.toNat % 8*262144+b.toNat % 64*4096+c.toNat % 64*64+d.toNat % 64=four a b c d:=by
       unfold four
       omega
      rw [e]
      by_cases h5:65536≤four a b c d
      ·have hv:Utf8.valid ((four a b c d:Nat):Int)=scalar (four a b c d):=by
        by_cases h7:four a b c d < 1114112
        ·exact valid_scalar _ h7
        ·have e1:scalar (four a b c d)=false:=by
          cases hx:scalar (four a b c d)with
          | false=> rfl
          | true=> have:=scalar_is.1 hx;omega
         rw [e1]
         unfold Utf8.valid
         have e2:decide (((four a b c d:Nat):Int) < 55296)=false:=decide_eq_false (by omega)
         have e3:decide (((four a b c d:Nat):Int)≤1114111)=false:=decide_eq_false (by omega)
         rw [e2,e3,Bool.and_false,Bool.and_false]
         rfl
       rw [hv]
       cases h6:scalar (four a b c d)with
       | true=> simp [orBad,h5]
       | false=> simp [orBad]
      ·simp [orBad,h5]
 rw [if_neg h4]
 rw [decide_eq_false h2,decide_eq_false h3,decide_eq_false h4]
 rfl
theorem decode_is {l:List UInt8} {i:Nat} {a:UInt8} {r:List UInt8} (h:l.drop i=a::r):Utf8.decode ⟨l.toArray⟩ i=orBad (charF (a::r)):=by
 rw [decode_mach h,mach_is]
end Jt
end Go.Proofs.YtgmangikcfakgaaGreatDoor
