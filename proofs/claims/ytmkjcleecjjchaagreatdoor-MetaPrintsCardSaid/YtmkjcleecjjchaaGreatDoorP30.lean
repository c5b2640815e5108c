import Derived.Test.YtmkjcleecjjchaaGreatDoorP19
import Derived.Test.YtmkjcleecjjchaaGreatDoorP21
namespace Go.Proofs.YtmkjcleecjjchaaGreatDoor
open Go Jt
namespace Js
theorem skip_short:∀s:List UInt8,(skip s).length≤s.length
 | []=> Nat.le_refl _
 | a::r=> by
  rw [skip]
  split
  ·exact Nat.le_trans (skip_short r) (Nat.le_succ _)
  ·exact Nat.le_refl _
theorem Short.one {M:Nat} {v:V} (h1:v.key.length≤M) (h2:v.text.length≤M):Short M [v]:=fun x hx=> by
 rw [List.mem_singleton.1 hx]
 exact ⟨h1,h2⟩
theorem Short.cons {M:Nat} {v:V} {l:List V} (h1:v.key.length≤M) (h2:v.text.length≤M) (h:Short M l):Short M (v::l):=fun x hx=> by
 rcases List.mem_cons.1 hx with rfl | hx
 ·exact ⟨h1,h2⟩
 ·exact h x hx
theorem Short.app {M:Nat} {l k:List V} (h1:Short M l) (h2:Short M k):Short M (l++k):=fun x hx=> by
 rcases List.mem_append.1 hx with hx | hx
 ·exact h1 x hx
 ·exact h2 x hx
theorem word_short {w s:List UInt8} {v:V} {n:Nat} {l:List V} {r:List UInt8} {M:Nat} (hv:Short M [v]) (h:wordF w s v= .ok n l r):Short M l:=by
 obtain ⟨_,rfl⟩:=word_right h
 exact hv
theorem group_short {K:List UInt8→Res} {kind:Int} {key:List UInt8} {c:UInt8} {s:List UInt8} {n:Nat} {l:List V} {r:List UInt8} {M:Nat} (hk:key.length≤M) (hK:∀n l r,K s= .ok n l r→Short M l) (h:groupF K kind key c s= .ok n l r):Short M l:=by
 have hb:∀ {n:Nat} {l:List V} {r:List UInt8},((K s).bind fun n l r=> .ok 1 (⟨kind,key,[],n⟩::l) r)= .ok n l r→Short M l:=fun h=> by
  obtain ⟨n1,l1,r1,e1,e2⟩:=bind_some h
  obtain ⟨_,rfl,_⟩:=ok_inj e2
  exact .cons hk (Nat.zero_le _) (hK _ _ _ e1)
 unfold groupF at h
 split at h
 ·exact hb h
 ·split at h
  ·obtain ⟨_,rfl,_⟩:=ok_inj h
   exact .one hk (Nat.zero_le _)
  ·exact hb h
theorem val_short {K:Bool→List UInt8→Res} {key:List UInt8} {d c:Nat} {s:List UInt8} {n:Nat} {l:List V} {r:List UInt8} {N:Nat} (hk:key.length≤4*N) (hs:s.length≤N) (hK:∀o s n l r,s.length≤N→K o s= .ok n l r→Short (4*N) l) (h:valW K key d c s= .ok n l r):Short (4*N) l:=by
 have hsk:=skip_short s
 unfold valW at h
 split at h
 ·cases h
 next a u hau=>
  rw [hau,List.length_cons]at hsk
  split at h
  ·cases h
  split at h
  ·cases h
  split at h
  ·exact word_short (.one hk (Nat.zero_le _)) h
  split at h
  ·exact word_short (.one hk (Nat.zero_le _)) h
  split at h
  ·exact word_short (.one hk (Nat.zero_le _)) h
  split at h
  ·unfold stringF at h
   split at h
   next p hp=>
    obtain ⟨_,rfl,_⟩:=ok_inj h
    have:=unq_size (s:=a::u) (x:=p.1) (k:=p.2) hp
    rw [List.length_cons]at this
    exact .one hk (by show p.1.length≤_;omega)
   ·cases h
  split at h
  ·exact group_short hk (fun n l r e=> hK _ _ _ _ _ (by omega) e) h
  split at h
  ·exact group_short hk (fun n l r e=> hK _ _ _ _ _ (by omega) e) h
  ·unfold numberF at h
   split at h
   ·cases h
   ·obtain ⟨_,rfl,_⟩:=ok_inj h
    refine .one hk ?_
    show ((a::u).take _).length≤_
    rw [List.length_take,List.length_cons]
    omega
theorem kids_short (N:Nat):∀(g:Nat) (o:Bool) (d c:Nat) (ks:List (List UInt8)) (s:List UInt8) (n:Nat) (l:List V) (r:List UInt8),s.length≤N→kids g o d c ks s= .ok n l r→Short (4*N) l:=by
 intro g
 induction g with
 | zero=>
  intro o d c ks s n l r _ h
  cases h
 | succ g ih=>
  intro o d c ks s n l r hs h
  rw [kids_one]at h
  obtain ⟨n1,l1,r1,e1,e2⟩:=bind_some h
  have h1:=one_facts e1
  have hl1:Short (4*N) l1:=by
   unfold oneF at e1
   split at e1
   ·unfold nameF at e1
    split at e1
    ·cases e1
    next p hp=>
     split at e1
     ·cases e1
     ·have hsz:=unq_size (s:=skip s) (x:=p.1) (k:=p.2) hp
      have hsk:=skip_short s
      split at e1
      ·cases e1
      next a u hau=>
       split at e1
       ·have h3:=skip_short ((skip s).drop p.2)
        rw [hau,List.length_cons,List.length_drop]at h3
        exact val_short (by omega) (by omega) (fun o s n l r hs e=> ih _ _ _ _ _ _ _ _ hs e) e1
       ·cases e1
   ·exact val_short (Nat.zero_le _) hs (fun o s n l r hs e=> ih _ _ _ _ _ _ _ _ hs e) e1
  have hsk:=skip_short r1
  unfold nextF at e2
  split at e2
  ·cases e2
  next a u hau=>
   rw [hau,List.length_cons]at hsk
   split at e2
   ·obtain ⟨_,rfl,_⟩:=ok_inj e2
    exact hl1
   ·split at e2
    ·obtain ⟨n2,l2,r2,e3,e4⟩:=bind_some e2
     obtain ⟨_,rfl,_⟩:=ok_inj e4
     exact hl1.app (ih _ _ _ _ _ _ _ _ (by omega) e3)
    ·cases e2
theorem parse_short {s:List UInt8} {n:Nat} {l:List V} {r:List UInt8} (h:parseF s= .ok n l r):Short (4*s.length) l:=by
 unfold parseF valF at h
 obtain ⟨n1,l1,r1,e1,e2⟩:=bind_some h
 split at e2
 ·obtain ⟨_,rfl,_⟩:=ok_inj e2
  exact val_short (Nat.zero_le _) (Nat.le_refl _) (fun o s n l r hs e=> kids_short _ _ _ _ _ _ _ _ _ _ hs e) e1
 ·cases e2
end Js
end Go.Proofs.YtmkjcleecjjchaaGreatDoor
