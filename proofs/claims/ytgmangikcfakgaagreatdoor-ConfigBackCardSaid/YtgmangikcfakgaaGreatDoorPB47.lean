import Derived.Test.YtgmangikcfakgaaGreatDoorPB28
namespace Go.Proofs.YtgmangikcfakgaaGreatDoor
open Go Jt
namespace Js
theorem word_few {w s:List UInt8} {v:V} {n:Nat} {l:List V} {r:List UInt8} (hw:0 < w.length) (hs:0 < s.length) (h:wordF w s v= .ok n l r):l.length+r.length≤s.length:=by
 unfold wordF at h
 split at h
 ·obtain ⟨_,rfl,rfl⟩:=ok_inj h
  rw [List.length_drop,List.length_singleton]
  omega
 ·cases h
theorem group_few {K:List UInt8→Res} {kind:Int} {key:List UInt8} {c:UInt8} {s:List UInt8} {n:Nat} {l:List V} {r:List UInt8} (hK:∀n l r,K s= .ok n l r→l.length+r.length≤s.length) (h:groupF K kind key c s= .ok n l r):l.length+r.length≤s.length+1:=by
 have hb:∀ {n:Nat} {l:List V} {r:List UInt8},((K s).bind fun n l r=> .ok 1 (⟨kind,key,[],n⟩::l) r)= .ok n l r→l.length+r.length≤s.length+1:=fun h=> by
  obtain ⟨n1,l1,r1,e1,e2⟩:=bind_some h
  obtain ⟨_,rfl,rfl⟩:=ok_inj e2
  have:=hK _ _ _ e1
  rw [List.length_cons]
  omega
 have hsk:=skip_short s
 unfold groupF at h
 split at h
 ·exact hb h
 next a u hau=>
  rw [hau,List.length_cons]at hsk
  split at h
  ·obtain ⟨_,rfl,rfl⟩:=ok_inj h
   rw [List.length_singleton]
   omega
  ·exact hb h
theorem val_few {K:Bool→List UInt8→Res} {key:List UInt8} {d c:Nat} {s:List UInt8} {n:Nat} {l:List V} {r:List UInt8} (hK:∀o s n l r,K o s= .ok n l r→l.length+r.length≤s.length) (h:valW K key d c s= .ok n l r):l.length+r.length≤s.length:=by
 have hsk:=skip_short s
 unfold valW at h
 split at h
 ·cases h
 next a u hau=>
  rw [hau,List.length_cons]at hsk
  have h0:0 < (a::u).length:=Nat.succ_pos _
  split at h
  ·cases h
  split at h
  ·cases h
  split at h
  ·have:=word_few (by decide) h0 h
   rw [List.length_cons]at this
   omega
  split at h
  ·have:=word_few (by decide) h0 h
   rw [List.length_cons]at this
   omega
  split at h
  ·have:=word_few (by decide) h0 h
   rw [List.length_cons]at this
   omega
  split at h
  ·unfold stringF at h
   split at h
   next p hp=>
    obtain ⟨_,rfl,rfl⟩:=ok_inj h
    have:=(unqF_cut (s:=a::u) (x:=p.1) (k:=p.2) hp).2.1
    rw [List.length_drop,List.length_singleton,List.length_cons]
    omega
   ·cases h
  split at h
  ·have:=group_few (fun n l r e=> hK _ _ _ _ _ e) h
   omega
  split at h
  ·have:=group_few (fun n l r e=> hK _ _ _ _ _ e) h
   omega
  ·unfold numberF at h
   split at h
   ·cases h
   ·obtain ⟨_,rfl,rfl⟩:=ok_inj h
    rw [List.length_drop,List.length_singleton,List.length_cons]
    omega
theorem kids_few:∀(g:Nat) (o:Bool) (d c:Nat) (ks:List (List UInt8)) (s:List UInt8) (n:Nat) (l:List V) (r:List UInt8),kids g o d c ks s= .ok n l r→l.length+r.length≤s.length:=by
 intro g
 induction g with
 | zero=>
  intro o d c ks s n l r h
  cases h
 | succ g ih=>
  intro o d c ks s n l r h
  rw [kids_one]at h
  obtain ⟨n1,l1,r1,e1,e2⟩:=bind_some h
  have hl1:l1.length+r1.length≤s.length:=by
   unfold oneF at e1
   split at e1
   ·unfold nameF at e1
    split at e1
    ·cases e1
    next p hp=>
     split at e1
     ·cases e1
     ·have hsk:=skip_short s
      split at e1
      ·cases e1
      next a u hau=>
       split at e1
       ·have h3:=skip_short ((skip s).drop p.2)
        rw [hau,List.length_cons,List.length_drop]at h3
        have:=val_few (fun o s n l r e=> ih _ _ _ _ _ _ _ _ e) e1
        omega
       ·cases e1
   ·exact val_few (fun o s n l r e=> ih _ _ _ _ _ _ _ _ e) e1
  have hsk:=skip_short r1
  unfold nextF at e2
  split at e2
  ·cases e2
  next a u hau=>
   rw [hau,List.length_cons]at hsk
   split at e2
   ·obtain ⟨_,rfl,rfl⟩:=ok_inj e2
    omega
   ·split at e2
    ·obtain ⟨n2,l2,r2,e3,e4⟩:=bind_some e2
     obtain ⟨_,rfl,rfl⟩:=ok_inj e4
     have:=ih _ _ _ _ _ _ _ _ e3
     rw [List.length_append]
     omega
    ·cases e2
theorem parse_few {s:List UInt8} {n:Nat} {l:List V} {r:List UInt8} (h:parseF s= .ok n l r):l.length≤s.length:=by
 unfold parseF valF at h
 obtain ⟨n1,l1,r1,e1,e2⟩:=bind_some h
 split at e2
 ·obtain ⟨_,rfl,_⟩:=ok_inj e2
  have:=val_few (fun o s n l r e=> kids_few _ _ _ _ _ _ _ _ _ e) e1
  omega
 ·cases e2
end Js
namespace Jo
open Js
theorem flat_in {α:Type} {l:List (List α)} {q:List α} (h:q∈l):q.length≤l.flatten.length:=by
 induction l with
 | nil=> cases h
 | cons a r ih=>
  rw [List.flatten_cons,List.length_append]
  rcases List.mem_cons.1 h with rfl | h
  ·omega
  ·have:=ih h
   omega
theorem parsed_walk {bs:List UInt8} {y:Cfg} (hl:bs.length≤3000) (h:parseC bs= .ok y):y.rest.length≤5000∧(∀h∈y.hist,h.who.length≤250000∧h.rest.length≤5000)∧(y.hist.map rowH).flatten.length≤4000:=by
 unfold parseC at h
 cases hq:parseF bs with
 | err c=> rw [hq]at h;cases h
 | ok k L r=>
  rw [hq]at h
  have h:confF L= .ok y:=h
  have hf:=parse_few hq
  obtain ⟨_,_,t,ht⟩:=parse_right hq
  have hr:=(prog_is L).2 ⟨t,ht⟩
  have hs:Short 12000 L:=short_more (parse_short hq) (by omega)
  obtain ⟨hok,hdg,hbr,hrl⟩:=conf_inv h
  have hL5:=right_short hr
  have hsum:(y.hist.map rowH).flatten.length≤4000:=by
   obtain ⟨P,hC⟩:=conf_is hok hbr
   have h1:(rowC y).length=(bodyC y).length:=by rw [hC.row,(srt_srt hbr).2.2]
   have h2:=congrArg List.length hC.obj.eq
   rw [List.length_cons,List.flatten_append,List.length_append]at h2
   by_cases hn:y.hist=[]
   ·rw [hn]
    exact Nat.zero_le _
   ·have h3:named histK (listF (y.hist.map rowH))∈partsC y:=by
     unfold partsC
     rw [if_neg hn]
     exact List.mem_append_right _ (List.mem_singleton.2 rfl)
    have h4:=flat_in h3
    have h5:(named histK (listF (y.hist.map rowH))).length=(y.hist.map rowH).flatten.length+1:=rfl
    omega
  unfold confF at h
  split at h
  next d hs2 h1 h2=>
   split at h
   ·cases h
   ·split at h
    ·cases h
    ·obtain rfl:=OutC.ok.inj h
     have nR:ofKey L rootK≠[]:=fun e=> by
      have:=(root_inv h1).2
      rw [e]at this
      exact absurd this (by rw [List.length_nil];omega)
     have ho:=key_isO nR
     refine ⟨Nat.le_trans (few_drops _ _ _ ho) hL5,fun x hx=> ?_,hsum⟩
     unfold histF at h2
     split at h2
     ·obtain rfl:=Option.some.inj h2
      cases hx
     ·unfold listO at h2
      split at h2
      next h5=>
       obtain ⟨p,hp2,he⟩:=all_mem h2 x hx
       have hsk:Short 12000 (ofKey L histK):=short_cutC hs _
       have hlk:(ofKey L histK).length≤L.length:=cutA_len _ _
       obtain ⟨hpl,hin⟩:=partsL_sub hp2
       have hps:Short 12000 p:=fun z hz=> hsk z (hin z hz)
       obtain ⟨b1,b2,b3⟩:=entry_short hps he
       exact ⟨by omega,by omega⟩
      next=> cases h2
  next=> cases h
end Jo
end Go.Proofs.YtgmangikcfakgaaGreatDoor
