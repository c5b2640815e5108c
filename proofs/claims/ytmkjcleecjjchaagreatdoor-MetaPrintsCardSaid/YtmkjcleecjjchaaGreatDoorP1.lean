import Derived.Test.YtmkjcleecjjchaaGreatDoorP0
import Derived.Lib.ParseIntB
namespace Go.Proofs.YtmkjcleecjjchaaGreatDoor
open Go
namespace Jt
def foldV (v:Nat) (s:List UInt8):Nat:=s.foldl (fun v a=> v*10+(a.toNat - 48)) v
theorem fold_cons (v:Nat) (a:UInt8) (s:List UInt8):foldV v (a::s)=foldV (v*10+(a.toNat - 48)) s:=by unfold foldV;rw [List.foldl_cons]
theorem fold_ge:∀(s:List UInt8) (v:Nat),v≤foldV v s
 | [],_=> Nat.le_refl _
 | a::s,v=> by
  rw [fold_cons]
  have:=fold_ge s (v*10+(a.toNat - 48))
  omega
theorem parse_ok {M:Nat}:∀(s:List UInt8) (v u:Nat),v≤M→Lib.parseUintM M v s= .ok u→s.all isD=true∧u=foldV v s∧u≤M
 | [],v,u,hv,h=> by
  rw [Lib.parseUintM]at h
  injection h with h
  subst h
  exact ⟨rfl,rfl,hv⟩
 | a::s,v,u,hv,h=> by
  rw [Lib.parseUintM]at h
  split at h
  ·rename_i hd
   split at h
   ·cases h
   split at h
   ·cases h
   ·obtain ⟨h1,h2,h3⟩:=parse_ok s _ u (by omega) h
    refine ⟨?_,h2,h3⟩
    rw [List.all_cons,h1,Bool.and_true]
    exact isD_is.2 hd
  ·cases h
theorem parse_all {M:Nat} (hM:M≤18446744073709551615):∀(s:List UInt8) (v:Nat),s.all isD=true→foldV v s≤M→Lib.parseUintM M v s= .ok (foldV v s)
 | [],_,_,_=> rfl
 | a::s,v,ha,hf=> by
  rw [List.all_cons,Bool.and_eq_true]at ha
  have hd:=isD_is.1 ha.1
  rw [fold_cons]at hf ⊢
  have hg:=fold_ge s (v*10+(a.toNat - 48))
  rw [Lib.parseUintM,if_pos hd,if_neg (by omega),if_neg (by omega)]
  exact parse_all hM s _ ha.2 hf
theorem parseB_is (s:List UInt8):(s≠[]∧s.all isD=true∧valF s≤18446744073709551615∧Lib.parseUintB 64 s= .ok (valF s))∨((s=[]∨s.all isD=false∨18446744073709551615 < valF s)∧∀u,Lib.parseUintB 64 s≠ .ok u):=by
 by_cases h0:s=[]
 ·right
  refine ⟨.inl h0,fun u=> ?_⟩
  rw [Lib.parseUintB,if_pos h0]
  intro h
  cases h
 have e:Lib.parseUintB 64 s=Lib.parseUintM 18446744073709551615 0 s:=by rw [Lib.parseUintB,if_neg h0]
 cases ha:s.all isD with
 | false=>
  right
  refine ⟨.inr (.inl rfl),fun u h=> ?_⟩
  rw [e]at h
  have:=(parse_ok s 0 u (Nat.zero_le _) h).1
  rw [ha]at this
  cases this
 | true=>
  by_cases hv:valF s≤18446744073709551615
  ·left
   refine ⟨h0,rfl,hv, ?_⟩
   rw [e]
   exact parse_all (Nat.le_refl _) s 0 ha hv
  ·right
   refine ⟨.inr (.inr (by omega)),fun u h=> ?_⟩
   rw [e]at h
   obtain ⟨_,h2,h3⟩:=parse_ok s 0 u (Nat.zero_le _) h
   have:u=valF s:=h2
   omega
theorem min_cons (a:UInt8) (r:List UInt8):minF (a::r)=if a=45 then 1 else 0:=rfl
theorem toN_iff (a:UInt8) (n:Nat) (h:n < 256):a.toNat=n↔a=UInt8.ofNat n:=by
 constructor
 ·intro e
  exact (ofN a n e.symm).symm
 ·intro e
  rw [e,toN n h]
theorem int_prog {l:List UInt8} (hn:numF l=l.length) (h0:l≠[45,48]):intF l=match Lib.parseIntB 64 l with | .ok v=> some v | _=> none:=by
 match l with
 | []=> rfl
 | a::r=>
  have ne:(a::r)≠[]:=List.cons_ne_nil _ _
  have h43:a.toNat≠43:=fun e=> by
   have ea:a=43:=(toN_iff a 43 (by decide)).1 e
   subst ea
   have:numF (43::r)=0:=by
    have hm:minF (43::r)=0:=rfl
    have hw:wholeF (43::r)=0:=by rw [wholeF,if_pos (dig_no (by decide))]
    rw [numF,hm,List.drop_zero,posF,if_pos hw,if_pos rfl]
   rw [this]at hn
   cases hn
  have e1:(if a.toNat=43∨a.toNat=45 then r else a::r)=(a::r).drop (minF (a::r)):=by
   rw [min_cons]
   by_cases h45:a=45
   ·rw [if_pos h45,if_pos (.inr ((toN_iff a 45 (by decide)).2 h45))]
    rfl
   ·rw [if_neg h45,if_neg (fun h=> h.elim h43 (fun h=> h45 ((toN_iff a 45 (by decide)).1 h)))]
    rfl
  have hc:¬((a::r)=[]∨(a::r)=[45,48]∨numF (a::r)≠(a::r).length∨((a::r).drop (minF (a::r))).all isD=false)↔((a::r).drop (minF (a::r))).all isD=true:=by
   constructor
   ·intro h
    cases hb:((a::r).drop (minF (a::r))).all isD with
    | true=> rfl
    | false=> exact absurd (.inr (.inr (.inr hb))) h
   ·intro h hh
    rcases hh with hh | hh | hh | hh
    ·exact ne hh
    ·exact h0 hh
    ·exact hh hn
    ·rw [h]at hh
     cases hh
  unfold Lib.parseIntB
  simp only
  rw [e1]
  have h45:a.toNat=45↔minF (a::r)=1:=by
   rw [min_cons,toN_iff a 45 (by decide)]
   by_cases h:a=45
   ·rw [if_pos h]
    exact ⟨fun _=> rfl,fun _=> h⟩
   ·rw [if_neg h]
    exact ⟨fun e=> absurd e h,fun e=> by cases e⟩
  rcases parseB_is ((a::r).drop (minF (a::r)))with ⟨g0,g1,g2,g3⟩ | ⟨g1,g2⟩
  ·rw [g3]
   simp only
   rw [intF,if_neg (hc.2 g1)]
   by_cases hm:minF (a::r)=1
   ·rw [hm]at g2 ⊢
    have hneg:=h45.2 hm
    have p1:¬(¬a.toNat=45∧2 ^ (64 - 1)≤valF ((a::r).drop 1)):=fun h=> h.1 hneg
    by_cases hle:valF ((a::r).drop 1)≤9223372036854775808
    ·have p2:¬(a.toNat=45∧2 ^ (64 - 1) < valF ((a::r).drop 1)):=fun h=> by have h2:=h.2;omega
     rw [if_pos rfl,if_pos hle,if_neg p1,if_neg p2,if_pos hneg]
    ·have p2:a.toNat=45∧2 ^ (64 - 1) < valF ((a::r).drop 1):=⟨hneg,by omega⟩
     rw [if_pos rfl,if_neg hle,if_neg p1,if_pos p2]
   ·have hm0:minF (a::r)=0:=by
     rw [min_cons]at hm ⊢
     split at hm
     ·exact absurd rfl hm
     ·rename_i h;rw [if_neg h]
    rw [if_neg hm]
    rw [hm0,List.drop_zero]
    rw [hm0,List.drop_zero]at g2
    have hneg:¬a.toNat=45:=fun h=> hm (h45.1 h)
    by_cases hle:valF (a::r)≤9223372036854775807
    ·have p1:¬(¬a.toNat=45∧2 ^ (64 - 1)≤valF (a::r)):=fun h=> by have h2:=h.2;omega
     have p2:¬(a.toNat=45∧2 ^ (64 - 1) < valF (a::r)):=fun h=> hneg h.1
     rw [if_pos hle,if_neg p1,if_neg p2,if_neg hneg]
    ·have p1:¬a.toNat=45∧2 ^ (64 - 1)≤valF (a::r):=⟨hneg,by omega⟩
     rw [if_neg hle,if_pos p1]
  ·have hnone:intF (a::r)=none:=by
    rw [intF]
    by_cases hcc:(a::r)=[]∨(a::r)=[45,48]∨numF (a::r)≠(a::r).length∨((a::r).drop (minF (a::r))).all isD=false
    ·rw [if_pos hcc]
    ·have hall:=hc.1 hcc
     rw [if_neg hcc]
     rcases g1 with g1 | g1 | g1
     ·exact absurd g1 (num_digits hn ne hall).1
     ·rw [hall]at g1
      cases g1
     ·by_cases hm:minF (a::r)=1
      ·rw [if_pos hm]
       rw [hm]at g1
       rw [if_neg (by omega)]
      ·have hm0:minF (a::r)=0:=by
        rw [min_cons]at hm ⊢
        split at hm
        ·exact absurd rfl hm
        ·rename_i h;rw [if_neg h]
       rw [if_neg hm]
       rw [hm0,List.drop_zero]at g1
       rw [if_neg (by omega)]
   rw [hnone]
   cases hp:Lib.parseUintB 64 ((a::r).drop (minF (a::r)))
   ·exact absurd hp (g2 _)
   ·rfl
   ·rfl
theorem int_no {l:List UInt8} (h:numF l≠l.length∨l=[45,48]):intF l=none:=by
 rw [intF,if_pos (by rcases h with h | h;exact .inr (.inr (.inl h));exact .inr (.inl h))]
theorem num_parts {s r t u:List UInt8} (hr:r=s.drop (minF s)) (hw:digF r≠0) (ht:t=r.drop (wholeF r)) (hu:u=t.drop (fracF t)):numF s=s.length - (u.drop (expF u)).length∧(u.drop (expF u)).length≤s.length:=by
 have hwh:wholeF r≠0:=by
  unfold wholeF
  rw [if_neg hw]
  split <;> omega
 have hp:posF r=wholeF r+fracF t+expF u:=by
  rw [posF,if_neg hwh,←ht,←List.drop_drop,←ht,←hu]
 have hm:minF s≤s.length:=by
  match s with
  | []=> exact Nat.le_refl _
  | a::r=> rw [minF,List.length_cons];split <;> omega
 have l1:r.length=s.length - minF s:=by rw [hr,List.length_drop]
 have l2:t.length=r.length - wholeF r:=by rw [ht,List.length_drop]
 have l3:u.length=t.length - fracF t:=by rw [hu,List.length_drop]
 have l4:(u.drop (expF u)).length=u.length - expF u:=List.length_drop
 have b1:=Nat.le_trans (whole_le r) (dig_le r)
 have b2:=frac_len t
 have b3:=exp_len u
 rw [numF,←hr,hp,if_neg (by omega)]
 omega
theorem num_none {s:List UInt8} (hw:digF (s.drop (minF s))=0):numF s=0:=by
 have h:wholeF (s.drop (minF s))=0:=by rw [wholeF,if_pos hw]
 rw [numF,posF,if_pos h,if_pos rfl]
end Jt
end Go.Proofs.YtmkjcleecjjchaaGreatDoor
namespace Go.Proofs.YtmkjcleecjjchaaGreatDoor
open Go
namespace Jt
theorem get_at (l:List UInt8) (i k:Nat):((⟨l.toArray⟩:ByteArray).get! (i+k))=(l.drop i).getD k 0:=by
 show l.toArray[i+k]! =_
 simp [List.getD]
 rfl
theorem goes_div (b:UInt8):(b.toNat / 64==2)=goes b:=by
 by_cases h:128≤b.toNat∧b.toNat≤191
 ·rw [goes_is.2 h,beq_iff_eq]
  omega
 ·have e:goes b=false:=by
   cases hg:goes b with
   | true=> exact absurd (goes_is.1 hg) h
   | false=> rfl
  rw [e,beq_eq_false_iff_ne]
  omega
theorem valid_scalar (n:Nat) (h:n < 1114112):Utf8.valid (n:Int)=scalar n:=by
 unfold Utf8.valid scalar
 have e1:decide ((0:Int)≤(n:Int))=true:=decide_eq_true (by omega)
 have e2:decide ((n:Int) < 55296)=decide (n < 55296):=by simp [←Int.ofNat_lt]
 have e3:decide ((57344:Int)≤(n:Int))=decide (57344≤n):=by simp [←Int.ofNat_le]
 have e4:decide ((n:Int)≤1114111)=decide (n≤1114111):=by simp [←Int.ofNat_le]
 rw [e1,e2,e3,e4,Bool.true_and]
theorem encode_is {n:Nat} (h:scalar n=true):Utf8.encode (n:Int)=⟨(bytesF n).toArray⟩:=by
 have hs:=scalar_is.1 h
 unfold Utf8.encode bytesF
 rw [valid_scalar n (by omega),h,if_pos rfl,Int.toNat_natCast]
 simp only
 split
 ·rfl
 split
 ·rfl
 split
 ·rfl
 ·rfl
def machF (a:UInt8) (r:List UInt8):Nat×Nat:=
 let at' (k:Nat):Nat:=((a::r).getD k 0).toNat
 let cont (k:Nat):Bool:=decide (k < (a::r).length) && at' k / 64==2
 let b0:=at' 0
 if b0 < 0x80 then (b0,1)
 else if b0 / 32==6 && cont 1 then
  let c:=(b0 % 32)*64+at' 1 % 64
  if c≥0x80 then (c,2) else (65533,1)
 else if b0 / 16==14 && cont 1 && cont 2 then
  let c:=(b0 % 16)*4096+(at' 1 % 64)*64+at' 2 % 64
  if c≥0x800 && Utf8.valid c then (c,3) else (65533,1)
 else if b0 / 8==30 && cont 1 && cont 2 && cont 3 then
  let c:=(b0 % 8)*262144+(at' 1 % 64)*4096+(at' 2 % 64)*64+at' 3 % 64
  if c≥0x10000 && Utf8.valid c then (c,4) else (65533,1)
 else (65533,1)
theorem decode_mach {l:List UInt8} {i:Nat} {a:UInt8} {r:List UInt8} (h:l.drop i=a::r):Utf8.decode ⟨l.toArray⟩ i=machF a r:=by
 have hg:∀k,((⟨l.toArray⟩:ByteArray).get! (i+k))=(a::r).getD k 0:=fun k=> by rw [get_at,h]
 have hl:l.length=i+(a::r).length:=by
  have:=congrArg List.length h
  rw [List.length_drop]at this
  rw [List.length_cons]at this ⊢
  omega
 have hs:∀k,decide (i+k < (⟨l.toArray⟩:ByteArray).size)=decide (k < (a::r).length):=fun k=> by
  have e:(⟨l.toArray⟩:ByteArray).size=l.length:=rfl
  rw [e,hl]
  simp
 unfold Utf8.decode machF
 simp only [hg,hs]
 rfl
def orBad (p:Nat×Nat):Nat×Nat:=if p.2=0 then (65533,1) else p
theorem div_32 (a:UInt8):(a.toNat / 32==6)=decide (192≤a.toNat∧a.toNat < 224):=by
 by_cases h:192≤a.toNat∧a.toNat < 224
 ·rw [decide_eq_true h,beq_iff_eq];omega
 ·rw [decide_eq_false h,beq_eq_false_iff_ne];omega
theorem div_16 (a:UInt8):(a.toNat / 16==14)=decide (224≤a.toNat∧a.toNat < 240):=by
 by_cases h:224≤a.toNat∧a.toNat < 240
 ·rw [decide_eq_true h,beq_iff_eq];omega
 ·rw [decide_eq_false h,beq_eq_false_iff_ne];omega
theorem div_8 (a:UInt8):(a.toNat / 8==30)=decide (240≤a.toNat∧a.toNat < 248):=by
 by_cases h:240≤a.toNat∧a.toNat < 248
 ·rw [decide_eq_true h,beq_iff_eq];omega
 ·rw [decide_eq_false h,beq_eq_false_iff_ne];omega
theorem mach_is (a:UInt8) (r:List UInt8):machF a r=orBad (charF (a::r)):=by
 have la:=a.toNat_lt
 rw [charF]
 unfold machF
 simp only [List.getD_cons_zero,div_32,div_16,div_8]
 by_cases h1:a.toNat < 128
 ·rw [if_pos h1,if_pos h1]
  rfl
 rw [if_neg h1,if_neg h1]
 by_cases h2:192≤a.toNat∧a.toNat < 224
 ·rw [if_pos h2]
  have g3:¬(224≤a.toNat∧a.toNat < 240):=by omega
  have g4:¬(240≤a.toNat∧a.toNat < 248):=by omega
  rw [decide_eq_true h2,decide_eq_false g3,decide_eq_false g4]
  match r with
  | []=> rfl
  | b::t=>
   rw [char2]
   have e:a.toNat % 32*64+b.toNat % 64=two a b∨goes b=false:=by
    cases hg:goes b with
    | false=> exact .inr rfl
    | true=>
     have:=goes_is.1 hg
     left
     unfold two
     omega
   simp only [List.getD_cons_succ,List.getD_cons_zero,goes_div,List.length_cons,Bool.true_and,Bool.false_and]
   have hl:decide (1 < t.length+1+1)=true:=decide_eq_true (by omega)
   rw [hl]
   cases hg:goes b with
   | false=> simp [orBad]
   | true=>
    rw [hg]at e
    have e:=e.resolve_right (by decide)
    rw [e]
    by_cases h3:128≤two a b
    ·simp [orBad,h3]
    ·simp [orBad,h3]
 rw [if_neg h2]
 by_cases h3:224≤a.toNat∧a.toNat < 240
 ·rw [if_pos h3]
  have g4:¬(240≤a.toNat∧a.toNat < 248):=by omega
  rw [decide_eq_false h2,decide_eq_true h3,decide_eq_false g4]
  match r with
  | []=> rfl
  | [_]=> simp [orBad,char3]
  | b::c::t=>
   rw [char3]
   simp only [List.getD_cons_succ,List.getD_cons_zero,goes_div,List.length_cons,Bool.true_and,Bool.false_and]
   have hl:decide (1 < t.length+1+1+1)=true:=decide_eq_true (by omega)
   have hl2:decide (2 < t.length+1+1+1)=true:=decide_eq_true (by omega)
   rw [hl,hl2]
   cases hg:goes b with
   | false=> simp [orBad]
   | true=>
    cases hh:goes c with
    | false=> simp [orBad]
    | true=>
     have k1:=goes_is.1 hg
     have k2:=goes_is.1 hh
     have e:a.toNat % 16*4096+b.toNat % 64*64+c.toNat % 64=three a b c:=by
      unfold three
      omega
     rw [e,valid_scalar _ (by unfold three;omega)]
     by_cases h5:2048≤three a b c
     ·cases h6:scalar (three a b c)with
      | true=> simp [orBad,h5]
      | false=> simp [orBad]
     ·simp [orBad,h5]
 rw [if_neg h3]
 by_cases h4:240≤a.toNat∧a.toNat < 248
 ·rw [if_pos h4]
  rw [decide_eq_false h2,decide_eq_false h3,decide_eq_true h4]
  match r with
  | []=> rfl
  | [_]=> simp [orBad,char4]
  | [_,_]=> simp [orBad,char4]
  | b::c::d::t=>
   rw [char4]
   simp only [List.getD_cons_succ,List.getD_cons_zero,goes_div,List.length_cons,Bool.true_and,Bool.false_and]
   have hl:decide (1 < t.length+1+1+1+1)=true:=decide_eq_true (by omega)
   have hl2:decide (2 < t.length+1+1+1+1)=true:=decide_eq_true (by omega)
   have hl3:decide (3 < t.length+1+1+1+1)=true:=decide_eq_true (by omega)
   rw [hl,hl2,hl3]
   cases hg:goes b with
   | false=> simp [orBad]
   | true=>
    cases hh:goes c with
    | false=> simp [orBad]
    | true=>
     cases hi:goes d with
     | false=> simp [orBad]
     | true=>
      have k1:=goes_is.1 hg
      have k2:=goes_is.1 hh
      have k3:=goes_is.1 hi
      have e:a.toNat % 8*262144+b.toNat % 64*4096+c.toNat % 64*64+d.toNat % 64=four a b c d:=by
       unfold four
       omega
      rw [e]
      by_cases h5:65536≤four a b c d
      ·have hv:Utf8.valid ((four a b c d:Nat):Int)=scalar (four a b c d):=by
        by_cases h7:four a b c d < 1114112
        ·exact valid_scalar _ h7
        ·have e1:scalar (four a b c d)=false:=by
          cases hx:scalar (four a b c d)with
          | false=> rfl
          | true=> have:=scalar_is.1 hx;omega
         rw [e1]
         unfold Utf8.valid
         have e2:decide (((four a b c d:Nat):Int) < 55296)=false:=decide_eq_false (by omega)
         have e3:decide (((four a b c d:Nat):Int)≤1114111)=false:=decide_eq_false (by omega)
         rw [e2,e3,Bool.and_false,Bool.and_false]
         rfl
       rw [hv]
       cases h6:scalar (four a b c d)with
       | true=> simp [orBad,h5]
       | false=> simp [orBad]
      ·simp [orBad,h5]
 rw [if_neg h4]
 rw [decide_eq_false h2,decide_eq_false h3,decide_eq_false h4]
 rfl
theorem decode_is {l:List UInt8} {i:Nat} {a:UInt8} {r:List UInt8} (h:l.drop i=a::r):Utf8.decode ⟨l.toArray⟩ i=orBad (charF (a::r)):=by
 rw [decode_mach h,mach_is]
end Jt
end Go.Proofs.YtmkjcleecjjchaaGreatDoor
