import Derived.Test.YtgmangikcfakgaaGreatDoorPL17
namespace Go.Proofs.YtgmangikcfakgaaGreatDoor
open Go Sh
namespace Js
open Jt
inductive CR where
 | ok (t:List UInt8) (n:Nat) (l:List V) (r:List UInt8)
 | err (e:Nat)
def toC:Res→CR
 | .ok n l r=> .ok [] n l r
 | .err e=> .err e
def grpF (K:List UInt8→Res) (c:UInt8) (s:List UInt8):CR:=match skip s with
 | []=> toC (K s)
 | a::r=> if a=c then .ok [] 0 [] r else toC (K s)
def wordN (k:Int):List UInt8:=if k=0 then [110,117,108,108] else if k=1 then [116,114,117,101] else [102,97,108,115,101]
def strC (s:List UInt8):CR:=match unqF s with
 | some p=> .ok p.1 0 [] (s.drop p.2)
 | none=> .err 3
def numC (s:List UInt8):CR:=if numF s=0 then .err 3 else .ok (s.take (numF s)) 0 [] (s.drop (numF s))
def wordC (k:Int) (s:List UInt8):CR:=if (wordN k).isPrefixOf s=true then .ok [] 0 [] (s.drop (wordN k).length) else .err 3
def contF (K:Bool→List UInt8→Res) (k:Int) (s:List UInt8):CR:=
 if k=3 then numC s else if k=4 then strC s else if k=5 then grpF (K false) 93 (s.drop 1) else if k=6 then grpF (K true) 125 (s.drop 1) else wordC k s
def toR (k:Int) (key:List UInt8):CR→Res
 | .ok t n l r=> .ok 1 (⟨k,key,t,n⟩::l) r
 | .err e=> .err e
def valR (K:Bool→List UInt8→Res) (key:List UInt8) (d c:Nat) (s:List UInt8):Option Int→Res
 | none=> .err 3
 | some k=> if 50≤d∨5000≤c then .err 2 else toR k key (contF K k s)
theorem toR_toC (k:Int) (key:List UInt8) (x:Res):toR k key (toC x)=x.bind fun n l r=> .ok 1 (⟨k,key,[],n⟩::l) r:=by cases x <;> rfl
theorem toR_grp (k:Int) (key:List UInt8) (K:List UInt8→Res) (c:UInt8) (s:List UInt8):toR k key (grpF K c s)=groupF K k key c s:=by
 unfold grpF groupF
 cases skip s with
 | nil=> exact toR_toC _ _ _
 | cons a r=>
  dsimp only
  by_cases h:a=c
  ·rw [if_pos h,if_pos h]
   rfl
  ·rw [if_neg h,if_neg h]
   exact toR_toC _ _ _
theorem toR_str (key s:List UInt8):toR 4 key (strC s)=stringF key s:=by
 unfold strC stringF
 cases unqF s <;> rfl
theorem toR_num (key s:List UInt8):toR 3 key (numC s)=numberF key s:=by
 unfold numC numberF
 by_cases h:numF s=0
 ·rw [if_pos h,if_pos h];rfl
 ·rw [if_neg h,if_neg h];rfl
theorem toR_word {k:Int} {w:List UInt8} (h:wordN k=w) (key s:List UInt8):toR k key (wordC k s)=wordF w s ⟨k,key,[],0⟩:=by
 unfold wordC wordF
 rw [h]
 by_cases h2:w.isPrefixOf s=true
 ·rw [if_pos h2,if_pos h2];rfl
 ·rw [if_neg h2,if_neg h2];rfl
theorem val_is (K:Bool→List UInt8→Res) (key:List UInt8) (d c:Nat) (s:List UInt8):valW K key d c s=valR K key d c (skip s) (kindF (skip s)):=by
 unfold valW
 cases skip s with
 | nil=> rfl
 | cons a r=>
  show _=valR K key d c (a::r) (kindN (n8 a))
  dsimp only
  have one:∀ {k:Int} {X:Res},kindN (n8 a)=some k→starts a=true→X=toR k key (contF K k (a::r))→(if starts a=false then Res.err 3 else if 50≤d∨5000≤c then .err 2 else X)=valR K key d c (a::r) (kindN (n8 a)):=fun h1 h2 h3=> by
   rw [h1,if_neg (by rw [h2];decide),h3]
   rfl
  by_cases h1:a=110
  ·subst h1
   exact one rfl rfl (toR_word (k:=0) rfl key _).symm
  by_cases h2:a=116
  ·subst h2
   exact one rfl rfl (toR_word (k:=1) rfl key _).symm
  by_cases h3:a=102
  ·subst h3
   exact one rfl rfl (toR_word (k:=2) rfl key _).symm
  by_cases h4:a=34
  ·subst h4
   exact one rfl rfl (toR_str key _).symm
  by_cases h5:a=91
  ·subst h5
   exact one rfl rfl (toR_grp 5 key _ _ _).symm
  by_cases h6:a=123
  ·subst h6
   exact one rfl rfl (toR_grp 6 key _ _ _).symm
  have hne:∀z:UInt8,a≠z→n8 a≠n8 z:=fun z h e=> h (n8_is e)
  have g1:n8 a≠110:=hne 110 h1
  have g2:n8 a≠116:=hne 116 h2
  have g3:n8 a≠102:=hne 102 h3
  have g4:n8 a≠34:=hne 34 h4
  have g5:n8 a≠91:=hne 91 h5
  have g6:n8 a≠123:=hne 123 h6
  by_cases h7:a=45∨isD a=true
  ·have hk:kindN (n8 a)=some 3:=by
    have h8:n8 a=45∨48≤n8 a∧n8 a≤57:=by
     rcases h7 with rfl | h7
     ·exact .inl rfl
     ·unfold isD at h7
      rw [Bool.and_eq_true,decide_eq_true_iff,decide_eq_true_iff]at h7
      unfold n8
      omega
    unfold kindN
    rw [if_neg g1,if_neg g2,if_neg g3,if_pos h8]
   have hst:starts a=true:=by
    unfold starts
    rcases h7 with rfl | h7
    ·rfl
    ·rw [h7,Bool.or_true]
   rw [if_neg h1,if_neg h2,if_neg h3,if_neg h4,if_neg h5,if_neg h6]
   exact one hk hst (toR_num key _).symm
  ·have hd:isD a=false:=Bool.eq_false_iff.2 fun h=> h7 (.inr h)
   have hk:kindN (n8 a)=none:=by
    have g7:n8 a≠45:=hne 45 fun h=> h7 (.inl h)
    have g8:¬(n8 a=45∨48≤n8 a∧n8 a≤57):=by
     rintro (h | h)
     ·exact g7 h
     ·refine h7 (.inr ?_)
      unfold isD
      unfold n8 at h
      rw [Bool.and_eq_true,decide_eq_true_iff,decide_eq_true_iff]
      omega
    unfold kindN
    rw [if_neg g1,if_neg g2,if_neg g3,if_neg g8,if_neg g4,if_neg g5,if_neg g6]
   have hst:starts a=false:=by
    unfold starts
    rw [hd,Bool.or_false]
    exact decide_eq_false fun h=> by
     rcases h with h | h | h | h | h | h | h
     ·exact h1 h
     ·exact h2 h
     ·exact h3 h
     ·exact h4 h
     ·exact h5 h
     ·exact h6 h
     ·exact h7 (.inl h)
   rw [if_pos hst,hk]
   rfl
theorem val_skip2 (K:Bool→List UInt8→Res) (key:List UInt8) (d c:Nat) (s:List UInt8):valW K key d c (skip s)=valW K key d c s:=by rw [val_is,val_is,skip_skip]
theorem val_one {K:Bool→List UInt8→Res} {key:List UInt8} {d c:Nat} {s:List UInt8} {n:Nat} {l:List V} {r:List UInt8} (h:valW K key d c s= .ok n l r):
  n=1∧keyOf l=key∧0 < l.length∧∃k t m l2,kindF (skip s)=some k∧¬(50≤d∨5000≤c)∧contF K k (skip s)= .ok t m l2 r∧l=⟨k,key,t,m⟩::l2:=by
 rw [val_is]at h
 cases hk:kindF (skip s)with
 | none=> rw [hk]at h;cases h
 | some k=>
  rw [hk]at h
  unfold valR at h
  dsimp only at h
  split at h
  ·cases h
  next hf=>
   cases hc:contF K k (skip s)with
   | err e=> rw [hc]at h;cases h
   | ok t m l2 r2=>
    rw [hc]at h
    obtain ⟨h1,h2,h3⟩:=ok_inj h
    subst h1 h2 h3
    exact ⟨rfl,rfl,by rw [List.length_cons];omega,k,t,m,l2,rfl,hf,hc,rfl⟩
theorem word_len {k:Int} {s:List UInt8} {t:List UInt8} {n:Nat} {l:List V} {r:List UInt8} (h:wordC k s= .ok t n l r):r.length < s.length:=by
 unfold wordC at h
 split at h
 next hp=>
  injection h with _ _ _ h
  subst h
  have h4:4≤(wordN k).length:=by
   unfold wordN
   split
   ·decide
   ·split <;> decide
  have:=(List.isPrefixOf_iff_prefix.1 hp).length_le
  rw [List.length_drop]
  omega
 ·cases h
theorem cont_len {K:Bool→List UInt8→Res} {k:Int} {s:List UInt8} {t:List UInt8} {n:Nat} {l:List V} {r:List UInt8} (hK:∀o s n l r,K o s= .ok n l r→r.length≤s.length) (hs:s≠[]) (h:contF K k s= .ok t n l r):r.length < s.length:=by
 have hpos:0 < s.length:=List.length_pos_iff.2 hs
 have grp:∀o c,grpF (K o) c (s.drop 1)= .ok t n l r→r.length < s.length:=fun o c h=> by
  unfold grpF at h
  have inner:toC (K o (s.drop 1))= .ok t n l r→r.length < s.length:=fun h=> by
   cases hx:K o (s.drop 1)with
   | err e=> rw [hx]at h;cases h
   | ok n2 l2 r2=>
    rw [hx]at h
    injection h with _ _ _ h
    subst h
    have:=hK _ _ _ _ _ hx
    rw [List.length_drop]at this
    omega
  split at h
  ·exact inner h
  next a u hsk=>
   split at h
   ·injection h with _ _ _ h
    subst h
    have h1:=skip_len (s.drop 1)
    rw [hsk,List.length_cons,List.length_drop]at h1
    omega
   ·exact inner h
 unfold contF at h
 split at h
 ·unfold numC at h
  split at h
  ·cases h
  next h0=>
   injection h with _ _ _ h
   subst h
   rw [List.length_drop]
   omega
 ·split at h
  ·unfold strC at h
   split at h
   next p hp=>
    injection h with _ _ _ h
    subst h
    have:=unq_le hp
    rw [List.length_drop]
    omega
   ·cases h
  ·split at h
   ·exact grp _ _ h
   ·split at h
    ·exact grp _ _ h
    ·exact word_len h
theorem val_len {K:Bool→List UInt8→Res} {key:List UInt8} {d c:Nat} {s:List UInt8} {n:Nat} {l:List V} {r:List UInt8} (hK:∀o s n l r,K o s= .ok n l r→r.length≤s.length) (h:valW K key d c s= .ok n l r):r.length < s.length:=by
 obtain ⟨_,_,_,k,t,m,l2,hk,_,hc,_⟩:=val_one h
 have hs:skip s≠[]:=fun e=> by rw [e]at hk;cases hk
 have:=cont_len hK hs hc
 have:=skip_len s
 omega
theorem name_len {ks:List (List UInt8)} {s:List UInt8} {f:List UInt8→List UInt8→Res} {n:Nat} {l:List V} {r:List UInt8} (h:nameF ks s f= .ok n l r):∃key s1,f key s1= .ok n l r∧s1.length < s.length:=by
 unfold nameF at h
 split at h
 ·cases h
 next p hp=>
  split at h
  ·cases h
  ·split at h
   ·cases h
   next a u hsk=>
    split at h
    ·refine ⟨_,_,h, ?_⟩
     have h1:=skip_len ((skip s).drop p.2)
     have h2:=skip_len s
     rw [hsk,List.length_cons,List.length_drop]at h1
     omega
    ·cases h
theorem next_len {o:Bool} {s:List UInt8} {n:Nat} {l:List V} {f:List UInt8→Res} {m:Nat} {l2:List V} {r:List UInt8} (hf:∀s n l r,f s= .ok n l r→r.length≤s.length) (h:nextF o s n l f= .ok m l2 r):r.length≤s.length:=by
 unfold nextF at h
 split at h
 ·cases h
 next a u hsk=>
  have h1:=skip_len s
  rw [hsk,List.length_cons]at h1
  split at h
  ·obtain ⟨_,_,rfl⟩:=ok_inj h
   omega
  ·split at h
   ·obtain ⟨n1,l1,r1,hx,h⟩:=bind_some h
    obtain ⟨_,_,rfl⟩:=ok_inj h
    have:=hf _ _ _ _ hx
    omega
   ·cases h
def oneF (g:Nat) (o:Bool) (d c:Nat) (ks:List (List UInt8)) (s:List UInt8):Res:=
 if o=true then nameF ks s fun key s1=> valW (fun o2=> kids g o2 (d+1) (c+1) []) key d c s1 else valW (fun o2=> kids g o2 (d+1) (c+1) []) [] d c s
theorem name_bind (ks:List (List UInt8)) (s:List UInt8) (f:List UInt8→List UInt8→Res) (F:Nat→List V→List UInt8→Res):(nameF ks s f).bind F=nameF ks s fun key s1=> (f key s1).bind F:=by
 unfold nameF
 cases unqF (skip s)with
 | none=> rfl
 | some p=>
  dsimp only
  by_cases h:p.1∈ks
  ·rw [if_pos h,if_pos h];rfl
  ·rw [if_neg h,if_neg h]
   cases skip ((skip s).drop p.2)with
   | nil=> rfl
   | cons a r=>
    dsimp only
    by_cases h2:a=58
    ·rw [if_pos h2,if_pos h2]
    ·rw [if_neg h2,if_neg h2];rfl
theorem kids_one (g:Nat) (o:Bool) (d c:Nat) (ks:List (List UInt8)) (s:List UInt8):kids (g+1) o d c ks s=(oneF g o d c ks s).bind fun n l r=> nextF o r n l fun r2=> kids g o d (c+l.length) (keyOf l::ks) r2:=by
 have tail:∀key s1,((valW (fun o2=> kids g o2 (d+1) (c+1) []) key d c s1).bind fun n l r=> nextF o r n l fun r2=> kids g o d (c+l.length) (key::ks) r2)=(valW (fun o2=> kids g o2 (d+1) (c+1) []) key d c s1).bind fun n l r=> nextF o r n l fun r2=> kids g o d (c+l.length) (keyOf l::ks) r2:=fun key s1=> by
  cases hx:valW (fun o2=> kids g o2 (d+1) (c+1) []) key d c s1 with
  | err e=> rfl
  | ok n l r=>
   rw [Res.bind_ok,Res.bind_ok,(val_one hx).2.1]
 unfold oneF
 rw [kids]
 cases o with
 | true=>
  rw [if_pos rfl,if_pos rfl,name_bind]
  congr 1
  funext key s1
  exact tail key s1
 | false=>
  rw [if_neg (by decide),if_neg (by decide)]
  exact tail [] s
theorem one_len {g:Nat} {o:Bool} {d c:Nat} {ks:List (List UInt8)} {s:List UInt8} {n:Nat} {l:List V} {r:List UInt8} (hK:∀o2 d c ks s n l r,kids g o2 d c ks s= .ok n l r→r.length < s.length) (h:oneF g o d c ks s= .ok n l r):r.length < s.length:=by
 unfold oneF at h
 split at h
 ·obtain ⟨key,s1,h1,h2⟩:=name_len h
  have:=val_len (fun o s n l r hx=> Nat.le_of_lt (hK _ _ _ _ _ _ _ _ hx)) h1
  omega
 ·exact val_len (fun o s n l r hx=> Nat.le_of_lt (hK _ _ _ _ _ _ _ _ hx)) h
theorem kids_len:∀(g:Nat) (o:Bool) (d c:Nat) (ks:List (List UInt8)) (s:List UInt8) (n:Nat) (l:List V) (r:List UInt8),kids g o d c ks s= .ok n l r→r.length < s.length:=by
 intro g
 induction g with
 | zero=> intro o d c ks s n l r h;cases h
 | succ g ih=>
  intro o d c ks s n l r h
  rw [kids_one]at h
  obtain ⟨n1,l1,r1,hx,h⟩:=bind_some h
  have h1:=one_len (fun o2 d c ks s n l r hk=> ih _ _ _ _ _ _ _ _ hk) hx
  have:=next_len (fun s n l r hk=> Nat.le_of_lt (ih _ _ _ _ _ _ _ _ hk)) h
  omega
theorem one_facts {g:Nat} {o:Bool} {d c:Nat} {ks:List (List UInt8)} {s:List UInt8} {n:Nat} {l:List V} {r:List UInt8} (h:oneF g o d c ks s= .ok n l r):n=1∧0 < l.length∧r.length < s.length∧c+l.length≤5000:=by
 have hl:=one_len (fun o2 d c ks s n l r hk=> kids_len _ _ _ _ _ _ _ _ _ hk) h
 have hK:KOk (fun o2=> kids g o2 (d+1) (c+1) []) (d+1) (c+1):=fun o2 s n l r hx=> by
  obtain ⟨K,t,h1,_,h3,h4,h5⟩:=kids_right _ _ _ _ _ _ _ _ _ hx
  exact ⟨K,t,h1,h3,fun e=> (h4 e).1,h5⟩
 have val:∀key s,validF key=true→valW (fun o2=> kids g o2 (d+1) (c+1) []) key d c s= .ok n l r→n=1∧0 < l.length∧c+l.length≤5000:=fun key s hv hx=> by
  obtain ⟨h1,v,l2,t,rfl,_,_,h5⟩:=val_right (o:=true) hK (fun e=> by cases e) hv hx
  exact ⟨h1,by rw [List.length_cons];omega,h5⟩
 unfold oneF at h
 split at h
 ·obtain ⟨key,s1,h1,hv,_⟩:=name_right h
  obtain ⟨a,b,c⟩:=val key s1 hv h1
  exact ⟨a,b,hl,c⟩
 ·obtain ⟨a,b,c⟩:=val [] s valid_nil h
  exact ⟨a,b,hl,c⟩
def headF (g:Nat) (o:Bool) (d c n:Nat) (ks:List (List UInt8)) (l:List V) (s:List UInt8):Res:=
 if n=0 then (match skip s with
  | []=> kids g o d c ks s
  | a::r=> if a=close o then .ok 0 [] r else kids g o d c ks s)
 else nextF o s n l fun r2=> kids g o d c ks r2
theorem grp_head (g:Nat) (o:Bool) (d c:Nat) (s:List UInt8):grpF (kids g o d c []) (close o) s=toC (headF g o d c 0 [] [] s):=by
 unfold grpF headF
 rw [if_pos rfl]
 cases skip s with
 | nil=> rfl
 | cons a r=>
  dsimp only
  by_cases h:a=close o
  ·rw [if_pos h,if_pos h];rfl
  ·rw [if_neg h,if_neg h]
theorem pre_one {c:UInt8} {s:List UInt8}:[c].isPrefixOf s=true↔∃r,s=c::r:=by
 match s with
 | []=> exact ⟨fun h=> (by cases h),fun ⟨r,e⟩=> (by cases e)⟩
 | a::r=>
  show (c==a && [].isPrefixOf r)=true↔_
  rw [List.isPrefixOf_nil_left,Bool.and_true,beq_iff_eq]
  exact ⟨fun e=> ⟨r,by rw [e]⟩,fun ⟨q,e⟩=> (by injection e with e _;exact e.symm)⟩
theorem head_close {g:Nat} {o:Bool} {d c n:Nat} {ks:List (List UInt8)} {l:List V} {s:List UInt8} (h:[close o].isPrefixOf (skip s)=true) (h0:n=0→l=[]):headF g o d c n ks l s= .ok n l ((skip s).drop 1):=by
 obtain ⟨r,hr⟩:=pre_one.1 h
 unfold headF
 by_cases hn:n=0
 ·subst hn
  rw [if_pos rfl,hr,h0 rfl]
  dsimp only
  rw [if_pos rfl]
  rfl
 ·rw [if_neg hn,nextF,hr]
  dsimp only
  rw [if_pos rfl]
  rfl
theorem head_none {g:Nat} {o:Bool} {d c n:Nat} {ks:List (List UInt8)} {l:List V} {s:List UInt8} (h:[close o].isPrefixOf (skip s)=false) (h1:[44].isPrefixOf (skip s)=false) (hn:n≠0):headF g o d c n ks l s= .err 3:=by
 unfold headF
 rw [if_neg hn,nextF]
 cases hs:skip s with
 | nil=> rfl
 | cons a r=>
  dsimp only
  rw [hs]at h h1
  rw [if_neg,if_neg]
  ·rintro rfl
   rw [pre_one.2 ⟨r,rfl⟩]at h1
   cases h1
  ·rintro rfl
   rw [pre_one.2 ⟨r,rfl⟩]at h
   cases h
theorem next_shift (o:Bool) (r:List UInt8) (n m:Nat) (l l1:List V) (f:List UInt8→Res):((nextF o r m l1 f).bind fun m2 l2 r2=> .ok (n+m2) (l++l2) r2)=nextF o r (n+m) (l++l1) f:=by
 unfold nextF
 cases skip r with
 | nil=> rfl
 | cons a u=>
  dsimp only
  by_cases h:a=close o
  ·rw [if_pos h,if_pos h];rfl
  ·rw [if_neg h,if_neg h]
   by_cases h2:a=44
   ·rw [if_pos h2,if_pos h2]
    cases f u with
    | err e=> rfl
    | ok m3 l3 r3=> rw [Res.bind_ok,Res.bind_ok,Res.bind_ok,Nat.add_assoc,List.append_assoc]
   ·rw [if_neg h2,if_neg h2];rfl
theorem one_skip (g:Nat) (o:Bool) (d c:Nat) (ks:List (List UInt8)) (s:List UInt8):oneF g o d c ks (skip s)=oneF g o d c ks s:=by
 unfold oneF
 rw [val_skip2]
 unfold nameF
 rw [skip_skip]
def upto (n:Nat) (s:List UInt8):List UInt8:=if n=0 then skip s else (skip s).drop 1
def stepF (g:Nat) (o:Bool) (d c n:Nat) (ks:List (List UInt8)) (l:List V):Res→Res
 | .ok _ l1 r=> headF g o d (c+l1.length) (n+1) (keyOf l1::ks) (l++l1) r
 | .err e=> .err e
theorem head_step {g:Nat} {o:Bool} {d c n:Nat} {ks:List (List UInt8)} {l:List V} {s:List UInt8} (h:[close o].isPrefixOf (skip s)=false) (h1:n≠0→[44].isPrefixOf (skip s)=true) (h0:n=0→l=[]):
  headF (g+1) o d c n ks l s=stepF g o d c n ks l (oneF g o d c ks (upto n s)):=by
 by_cases hn:n=0
 ·subst hn
  obtain rfl:=h0 rfl
  have e:headF (g+1) o d c 0 ks [] s=kids (g+1) o d c ks s:=by
   unfold headF
   rw [if_pos rfl]
   split
   ·rfl
   next a r hs=>
    rw [if_neg]
    rintro rfl
    rw [hs,pre_one.2 ⟨r,rfl⟩]at h
    cases h
  rw [e,upto,if_pos rfl,one_skip,kids_one]
  cases hx:oneF g o d c ks s with
  | err e=> rfl
  | ok m l1 r=>
   obtain ⟨rfl,_⟩:=one_facts hx
   show _=headF g o d (c+l1.length) (0+1) (keyOf l1::ks) ([]++l1) r
   rw [Res.bind_ok,List.nil_append]
   unfold headF
   rw [if_neg (by omega)]
 ·obtain ⟨r,hr⟩:=pre_one.1 (h1 hn)
  have e:headF (g+1) o d c n ks l s=(kids (g+1) o d c ks r).bind fun m l2 r2=> .ok (n+m) (l++l2) r2:=by
   unfold headF
   rw [if_neg hn,nextF,hr]
   dsimp only
   rw [if_neg,if_pos rfl]
   rintro hc
   rw [hr,hc,pre_one.2 ⟨r,rfl⟩]at h
   cases h
  rw [e,upto,if_neg hn,hr,kids_one,List.drop_one,List.tail_cons]
  cases hx:oneF g o d c ks r with
  | err e=> rfl
  | ok m l1 r1=>
   obtain ⟨rfl,_⟩:=one_facts hx
   show _=headF g o d (c+l1.length) (n+1) (keyOf l1::ks) (l++l1) r1
   rw [Res.bind_ok,next_shift]
   unfold headF
   rw [if_neg (by omega)]
theorem upto_len (n:Nat) (s:List UInt8):(upto n s).length≤s.length:=by
 have:=skip_len s
 unfold upto
 split
 ·exact this
 ·rw [List.length_drop];omega
end Js
end Go.Proofs.YtgmangikcfakgaaGreatDoor
