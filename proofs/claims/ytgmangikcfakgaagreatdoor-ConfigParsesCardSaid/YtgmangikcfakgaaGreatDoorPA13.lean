import Derived.Test.YtgmangikcfakgaaGreatDoorPA10
set_option maxRecDepth 100000
set_option maxHeartbeats 40000000
namespace Go.Proofs.YtgmangikcfakgaaGreatDoor
open Go.RowKit Sh
namespace Jt
theorem q0n {a:UInt8} {r:List UInt8}:(48≤(orBad (charF (a::r))).1∧(orBad (charF (a::r))).1≤57)↔isD a=true:=by
 constructor
 ·intro h
  have h2:=(qfr (a:=a) (r:=r) (c:=UInt8.ofNat (orBad (charF (a::r))).1) (by rw [toN _ (by omega)];omega)).1 (by rw [toN _ (by omega)])
  rw [qdt,h2,toN _ (by omega)];exact h
 ·intro h
  have h2:=qdt.1 h
  have e:=(qfr (a:=a) (r:=r) (c:=a) (by omega)).2 rfl
  rw [e];exact h2
theorem q1s {a:UInt8} {r:List UInt8} (h:isD a=true):orBad (charF (a::r))=(a.toNat,1):=by
 have h2:=qdt.1 h
 rw [charF,if_pos (by omega)]
 rfl
end Jt
open Jt
theorem qfw (w:World) (l:List UInt8):Calls Tryz.prog 179 #[.string (sb l)] w fun e w'=> e= .returned (.int .i64 (digF l:Nat))∧Below w.heap.size w w':=by
 have HD:=Qh (fun (i:Nat) (h:i < l.length)=> qho l h)
 have hsz:=qag l
 go_enter Tryz.func179,Tryz.ntmps179
 go_wp2_with fail
 go_loopg [] l.length (fun g wx=> ∃i:Nat,i+g=l.length∧wx=w.iter (sb l) i∧Hid (i+digF (l.drop i)=digF l))
 case atStart=> exact ⟨0,by omega,rfl,Qh (by rw [List.drop_zero,Nat.zero_add])⟩
 case round=>
  obtain ⟨i,hig,rfl,HI⟩:=hrel
  have HB:=Qh (fun p=> ((Below.refl w.heap.size w).alloc (Nat.le_refl _) (.stringIter (sb l) p):Below w.heap.size w (w.iter (sb l) p)))
  cases gk with
  | zero=>
   obtain rfl:i=l.length:=by omega
   have hnx:=fun ty=> run_next_end (P:=Tryz.prog) w (sb l) l.length ty (by rw [hsz];omega)
   have HE:=Qh (show l.length=digF l from by
    have h:=HI.out
    rw [List.drop_length]at h
    exact h)
   clear HI HD;generalize sb l=S at*;go_wp2_with fail;go_ret;exact ⟨by rw [←HE.out];rfl,HB.out _⟩
  | succ g=>
   have hi:i < l.length:=by omega
   have hd:=HD.out i hi
   have hnx:=fun ty=> run_next_any (P:=Tryz.prog) w (sb l) i ty (by rw [hsz];exact hi)
   rw [hd]at hnx
   have hat:=at_of l hi
   generalize l[i]=a at*;generalize l.drop (i+1)=t at*;have HI2:=HI.out
   rw [hat]at HI2
   cases hD:isD a with
   | true=>
    have hb:=qdt.1 hD
    rw [q1s hD]at hnx
    dsimp only at hnx
    have h48:48≤(a.toNat:Int):=by omega
    have h57:(a.toNat:Int)≤57:=by omega
    rw [qlt hD]at HI2
    have HJ:=Qh (show i+1+digF (l.drop (i+1))=digF l from by
     have:l.drop (i+1)=t:=by
      rw [←List.drop_drop,hat];rfl
     rw [this];omega)
    clear HI HI2 hd hat hD HD hb;generalize (a.toNat:Int)=d at*;generalize sb l=S at*;go_wp2_with fail;go_roundg g
    case measure=> omega
    case rel=> exact ⟨i+1,by omega,rfl,HJ⟩
   | false=>
    have hnd:¬(48≤(orBad (charF (a::t))).1∧(orBad (charF (a::t))).1≤57):=fun h=> by
     rw [q0n.1 h]at hD
     cases hD
    rw [qf7 hD]at HI2
    have HE:=Qh (show i=digF l from by omega)
    clear HI HI2 hd hat hD HD;generalize (orBad (charF (a::t))).1=n at*;generalize (orBad (charF (a::t))).2=j at*;have hnd2:(n:Int) < 48∨57 < (n:Int):=by omega
    clear hnd;generalize (n:Int)=d at*;generalize sb l=S at*;rcases hnd2 with h | h
    ·go_wp2_with fail
     go_ret;exact ⟨by rw [←HE.out];rfl,HB.out _⟩
    ·have h2:¬d < 48:=by omega
     go_wp2_with fail;go_ret;exact ⟨by rw [←HE.out];rfl,HB.out _⟩
namespace Jt
theorem qis (l:List UInt8) (k:Nat):(sb l).extract k l.length=sb (l.drop k):=by
 have:=qcj l k l.length
 rw [List.take_length]at this
 exact this
theorem pre1 {c:UInt8} {s:List UInt8}:[c].isPrefixOf s=true↔s.head? =some c:=by
 match s with
 | []=> simp [List.isPrefixOf]
 | a::r=>
  simp only [List.isPrefixOf,Bool.and_true,beq_iff_eq,List.head?_cons,Option.some.injEq]
  exact eq_comm
theorem q09 {s:List UInt8} (h:[46].isPrefixOf s=false):fracF s=0:=by
 match s with
 | []=> rfl
 | a::r=>
  rw [fracF,if_neg];rintro ⟨rfl,_⟩;cases h
theorem q0i {s:List UInt8} (h:[46].isPrefixOf s=true):fracF s=if digF (s.drop 1)≠0 then 1+digF (s.drop 1) else 0:=by
 match s with
 | []=> cases h
 | a::r=>
  have ha:=pre1.1 h
  rw [List.head?_cons,Option.some.injEq]at ha
  subst ha;show (if (46:UInt8)=46∧digF r≠0 then _ else _)=_
  by_cases h0:digF r≠0
  ·rw [if_pos ⟨rfl,h0⟩]
   exact (if_pos h0).symm
  ·rw [if_neg (fun h=> h0 h.2)]
   exact (if_neg h0).symm
theorem q15 (s:List UInt8):(if [45].isPrefixOf s=true then s.drop 1 else s)=s.drop (minF s):=by
 match s with
 | []=> rfl
 | a::r=>
  rw [qy6];by_cases ha:a=45
  ·subst ha
   rfl
  ·rw [if_neg ha,if_neg]
   ·rfl
   ·intro h
    have:=pre1.1 h
    rw [List.head?_cons,Option.some.injEq]at this
    exact ha this
end Jt
theorem qq9 (w:World) (l:List UInt8) (hl:l.length≤1000000000):Calls Tryz.prog 181 #[.string (sb l)] w fun e w'=> e= .returned (.int .i64 (fracF l:Nat))∧Below w.heap.size w w':=by
 have HC:=Qh (qlr l [46] w)
 cases hp:[46].isPrefixOf l with
 | false=>
  rw [hp,if_neg (by decide)]at HC
  have HG:=Qh (qfw w l)
  rw [q09 hp];clear hp;generalize sb l=S at*;generalize (digF l:Int)=d at*;go_enter Tryz.func181,Tryz.ntmps181
  go_wp2_with fail;refine HC.out.mono ?_
  rintro e w1 ⟨rfl,rfl⟩;go_wp2_with fail;refine HG.out.mono ?_
  rintro e w2 ⟨rfl,B2⟩;have HB2:=Qh B2
  clear B2;go_wp2_with fail;go_ret;exact ⟨rfl,HB2.out⟩
 | true=>
  rw [hp,if_pos rfl]at HC
  change Hid (Calls _ _ _ _ fun e w'=> e= .returned (.tuple #[.string (sb (l.drop 1)), .bool true])∧w'=w)at HC
  have HG:=Qh (qfw w (l.drop 1))
  have hle:=qb5 (l.drop 1)
  rw [List.length_drop]at hle
  rw [q0i hp];clear hp;generalize sb (l.drop 1)=T at*;generalize digF (l.drop 1)=d at*;generalize sb l=S at*;go_enter Tryz.func181,Tryz.ntmps181
  go_wp2_with fail;refine HC.out.mono ?_
  rintro e w1 ⟨rfl,rfl⟩;go_wp2_with fail;refine HG.out.mono ?_
  rintro e w2 ⟨rfl,B2⟩;have HB2:=Qh B2
  clear B2;by_cases h0:d=0
  ·subst h0
   go_wp2_with fail;go_ret;exact ⟨rfl,HB2.out⟩
  ·have HE:=Qh (show (((if d≠0 then 1+d else 0):Nat):Int)=1+(d:Int)from by rw [if_pos h0];omega)
   have h0':¬(d:Int)=0:=by omega
   have hd1:(d:Int)≤1000000000:=by omega
   have hd0:0≤(d:Int):=by omega
   clear hle h0;go_wp2_with fail;go_ret;exact ⟨by first | rfl | (rw [HE.out];rfl),HB2.out⟩
namespace Jt
theorem qma (x y a:UInt8):((0:Int)≤Lib.indexByte [x,y] a)↔(a=x∨a=y):=by
 by_cases h1:x=a
 ·subst h1
  have e:Lib.indexByte [x,y] x=0:=by rw [Lib.indexByte,if_pos (beq_self_eq_true x)]
  exact ⟨fun _=> .inl rfl,fun _=> by rw [e];exact Int.le_refl _⟩
 by_cases h2:y=a
 ·subst h2
  have e:Lib.indexByte [x,y] y=1:=by
   rw [Lib.indexByte,if_neg (by simpa using h1),Lib.indexByte,if_pos (beq_self_eq_true y)];rfl
  exact ⟨fun _=> .inr rfl,fun _=> by rw [e];decide⟩
 ·have e:Lib.indexByte [x,y] a= -1:=qww (fun z hz=> by
   rcases List.mem_cons.1 hz with rfl | hz
   ·exact h1
   ·rw [List.mem_singleton.1 hz]
    exact h2)
  rw [e];exact ⟨fun h=> absurd h (by decide),fun h=> (h.elim (fun h=> h1 h.symm) (fun h=> h2 h.symm)).elim⟩
theorem q2n (u:List UInt8):signF u=if h:0 < u.length then (if (0:Int)≤Lib.indexByte [43,45] (u[0]'h) then 1 else 0) else 0:=by
 match u with
 | []=> rfl
 | a::t=>
  rw [dif_pos (by simp),signF];simp only [List.getElem_cons_zero]
  by_cases h:a=43∨a=45
  ·rw [if_pos h,if_pos ((qma 43 45 a).2 h)]
  ·rw [if_neg h,if_neg (fun e=> h ((qma 43 45 a).1 e))]
end Jt
theorem qy8 (w:World) (l:List UInt8) (hl:l.length≤1000000000):Calls Tryz.prog 182 #[.string (sb l)] w fun e w'=> e= .returned (.int .i64 (expF l:Nat))∧Below w.heap.size w w':=by
 match l with
 | []=>
  have h1:(sb []).toList=[]:=qab _
  show Calls _ _ _ _ fun e w'=> e= .returned (.int .i64 0)∧_
  go_enter Tryz.func182,Tryz.ntmps182
  go_wp2_with fail;go_ret;exact ⟨rfl,Below.refl _ _⟩
 | a::u=>
  have h1:¬(sb (a::u)).toList=[]:=by rw [qab];exact List.cons_ne_nil _ _
  have h2:(sb (a::u)).toList.isEmpty=false:=by rw [qab];rfl
  have hix:∀W,(Instr.index 9 (.string (sb (a::u))) (.int .i64 0)).run Tryz.prog W= .ok (.int .u8 (n8 a)) W:=fun W=> qam (a::u) 0 (by simp) W
  have HX:=Qh (fun W=> qkm [101,69] a W)
  have hi2:=qma 101 69 a
  obtain ⟨ln,hln⟩:∃ln,ln=(a::u).length:=⟨_,rfl⟩
  have hsz:(sb (a::u)).size=ln:=hln.symm
  rw [List.length_cons]at hln
  rw [List.length_cons]at hl
  rw [expF];by_cases ha:a=101∨a=69
  ·have hz:0≤Lib.indexByte [101,69] a:=hi2.2 ha
   generalize Lib.indexByte [101,69] a=z at*;have HE:=Qh (show (if (a=101∨a=69)∧digF (u.drop (signF u))≠0 then 1+signF u+digF (u.drop (signF u)) else 0)=if digF (u.drop (signF u))≠0 then 1+signF u+digF (u.drop (signF u)) else 0 from by
    by_cases h0:digF (u.drop (signF u))≠0
    ·rw [if_pos ⟨ha,h0⟩,if_pos h0]
    ·rw [if_neg (fun h=> h0 h.2),if_neg h0])
   rw [HE.out];clear HE hi2;have hcut:=qis (a::u) (1+signF u)
   rw [Nat.add_comm 1 (signF u),List.drop_succ_cons,show (a::u).length=ln from hsz]at hcut
   have HG:=Qh (fun W=> qfw W (u.drop (signF u)))
   have hle:=qb5 (u.drop (signF u))
   rw [List.length_drop]at hle
   have hsl:=qfb u
   have hsg:=q2n u
   by_cases h0:0 < u.length
   ·rw [dif_pos h0]at hsg
    have hix1:∀W,(Instr.index 9 (.string (sb (a::u))) (.int .i64 1)).run Tryz.prog W= .ok (.int .u8 (n8 u[0])) W:=fun W=> qam (a::u) 1 (by simpa using h0) W
    have HY:=Qh (fun W=> qkm [43,45] u[0] W)
    have hu1:1 < (ln:Int):=by omega
    have hlb:(ln:Int)≤1000000001:=by omega
    clear ha;by_cases hs:(0:Int)≤Lib.indexByte [43,45] u[0]
    ·rw [if_pos hs]at hsg
     rw [hsg]at hcut HG hle ⊢
     generalize Lib.indexByte [43,45] u[0]=y at*;generalize n8 u[0]=b at*;generalize sb (a::u)=S at*;generalize sb (u.drop 1)=T at*;generalize digF (u.drop 1)=d at*;generalize n8 a=c at*;have hu2:2≤(ln:Int):=by omega
     have hdl:(d:Int)≤1000000000:=by omega
     clear hsg hsl hle h0 hl hln;go_enter Tryz.func182,Tryz.ntmps182
     go_wp2_with fail;refine (HX.out _).mono ?_
     rintro e w1 ⟨rfl,rfl⟩;go_wp2_with fail;refine (HY.out _).mono ?_
     rintro e w1 ⟨rfl,rfl⟩;go_wp2_with fail;refine (HG.out _).mono ?_
     rintro e w2 ⟨rfl,B2⟩;have HB2:=Qh B2
     clear B2;by_cases hd:d=0
     ·subst hd
      go_wp2_with fail;go_ret;exact ⟨rfl,HB2.out⟩
     ·have hd':¬(d:Int)=0:=by omega
      have HF:=Qh (show (((if d≠0 then 1+1+d else 0):Nat):Int)=2+(d:Int)from by rw [if_pos hd];omega)
      clear hd;go_wp2_with fail;go_ret;exact ⟨by first | rfl | (rw [HF.out];rfl),HB2.out⟩
    ·rw [if_neg hs]at hsg
     rw [hsg]at hcut HG hle ⊢
     generalize Lib.indexByte [43,45] u[0]=y at*;generalize n8 u[0]=b at*;generalize sb (a::u)=S at*;generalize sb (u.drop 0)=T at*;generalize digF (u.drop 0)=d at*;generalize n8 a=c at*;have hu2:1≤(ln:Int):=by omega
     have hdl:(d:Int)≤1000000000:=by omega
     clear hsg hsl hle h0 hl hln;go_enter Tryz.func182,Tryz.ntmps182
     go_wp2_with fail;refine (HX.out _).mono ?_
     rintro e w1 ⟨rfl,rfl⟩;go_wp2_with fail;refine (HY.out _).mono ?_
     rintro e w1 ⟨rfl,rfl⟩;go_wp2_with fail;refine (HG.out _).mono ?_
     rintro e w2 ⟨rfl,B2⟩;have HB2:=Qh B2
     clear B2;by_cases hd:d=0
     ·subst hd
      go_wp2_with fail;go_ret;exact ⟨rfl,HB2.out⟩
     ·have hd':¬(d:Int)=0:=by omega
      have HF:=Qh (show (((if d≠0 then 1+0+d else 0):Nat):Int)=1+(d:Int)from by rw [if_pos hd];omega)
      clear hd;go_wp2_with fail;go_ret;exact ⟨by first | rfl | (rw [HF.out];rfl),HB2.out⟩
   ·have hu:u=[]:=List.eq_nil_of_length_eq_zero (by omega)
    subst hu;clear ha;obtain rfl:ln=1:=hln
    replace hcut:(sb [a]).extract 1 1=sb []:=hcut
    have e0:([]:List UInt8).drop (signF [])=[]:=rfl
    rw [e0,show ((digF []:Nat):Int)=0 from rfl]at HG
    have e3:(((if digF (([]:List UInt8).drop (signF []))≠0 then 1+signF []+digF (([]:List UInt8).drop (signF [])) else 0):Nat):Int)=0:=rfl
    rw [e3];clear e0 e3;generalize sb [a]=S at*;clear hcut;rw [show sb []=ByteArray.empty from rfl]at HG
    generalize n8 a=c at*;clear hle hsl hsg h0 hl;go_enter Tryz.func182,Tryz.ntmps182
    go_wp2_with fail;refine (HX.out _).mono ?_
    rintro e w1 ⟨rfl,rfl⟩;go_wp2_with fail;refine (HG.out _).mono ?_
    rintro e w2 ⟨rfl,B2⟩;have HB2:=Qh B2
    clear B2;go_wp2_with fail;go_ret;exact ⟨rfl,HB2.out⟩
  ·have hz:¬0≤Lib.indexByte [101,69] a:=fun h=> ha (hi2.1 h)
   have hz2:Lib.indexByte [101,69] a < 0:=by omega
   rw [if_neg (fun h=> ha h.1)];generalize Lib.indexByte [101,69] a=z at*;clear ha hi2 hz hsz hl hln;generalize sb (a::u)=S at*;generalize n8 a=c at*;go_enter Tryz.func182,Tryz.ntmps182
   go_wp2_with fail;refine (HX.out _).mono ?_
   rintro e w1 ⟨rfl,rfl⟩;go_wp2_with fail;go_ret;exact ⟨rfl,Below.refl _ _⟩
end Go.Proofs.YtgmangikcfakgaaGreatDoor
namespace Go.Proofs.YtgmangikcfakgaaGreatDoor
open Go.RowKit Sh
namespace Jt
theorem q24 (s:List UInt8):minF s≤s.length:=by
 match s with
 | []=> exact Nat.le_refl _
 | a::r=> rw [minF,List.length_cons];split <;> omega
structure NumIs (s r t u v:List UInt8):Prop where
 num:numF s=s.length - v.length
 le:v.length≤s.length
 w:wholeF r≤r.length
 f:fracF t≤t.length
 e:expF u≤u.length
 rl:r.length≤s.length
 tl:t.length≤s.length
 ul:u.length≤s.length
theorem q29 {s r t u v:List UInt8} (hr:r=s.drop (minF s)) (hw:digF r≠0) (ht:t=r.drop (wholeF r)) (hu:u=t.drop (fracF t)) (hv:v=u.drop (expF u)):NumIs s r t u v:=by
 obtain ⟨h1,h2⟩:=qwu hr hw ht hu
 rw [←hv]at h1 h2
 have l1:r.length≤s.length:=by rw [hr,List.length_drop];omega
 have l2:t.length≤r.length:=by rw [ht,List.length_drop];omega
 have l3:u.length≤t.length:=by rw [hu,List.length_drop];omega
 exact ⟨h1,h2,Nat.le_trans (qdw r) (qb5 r),qfi t,qip u,l1,by omega,by omega⟩
theorem qok {r:List UInt8} (hw:digF r≠0):wholeF r=if [48].isPrefixOf r=true then 1 else digF r:=by
 rw [wholeF,if_neg hw]
 by_cases h:r.head? =some 48
 ·rw [if_pos h,if_pos (pre1.2 h)]
 ·rw [if_neg h,if_neg (fun e=> h (pre1.1 e))]
end Jt
open Jt
theorem qm7 (w:World) (s:List UInt8) (hl:s.length≤1000000000):Calls Tryz.prog 151 #[.string (sb s)] w fun e w'=> e= .returned (.int .i64 (numF s:Nat))∧Below w.heap.size w w':=by
 have HT:=Qh (q1t s [45] w)
 rw [show ([45]:List UInt8).length=1 from rfl,q15]at HT
 obtain ⟨r,hr⟩:∃r,r=s.drop (minF s):=⟨_,rfl⟩
 rw [←hr]at HT
 have HG:=Qh (fun W=> qfw W r)
 by_cases h0:digF r=0
 ·have hn:numF s=0:=qpg (by rw [←hr];exact h0)
  rw [hn];rw [h0]at HG
  clear hn h0 hr;generalize sb s=S at*;generalize sb r=R at*;go_enter Tryz.func151,Tryz.ntmps151
  go_wp2_with fail;refine HT.out.mono ?_
  rintro e w1 ⟨rfl,rfl⟩;go_wp2_with fail;refine (HG.out _).mono ?_
  rintro e w2 ⟨rfl,B2⟩;have HB2:=Qh B2
  clear B2;go_wp2_with fail;go_ret;exact ⟨rfl,HB2.out⟩
 ·obtain ⟨t,ht⟩:∃t,t=r.drop (wholeF r):=⟨_,rfl⟩
  obtain ⟨u,hu⟩:∃u,u=t.drop (fracF t):=⟨_,rfl⟩
  obtain ⟨v,hv⟩:∃v,v=u.drop (expF u):=⟨_,rfl⟩
  have N:=q29 hr h0 ht hu hv
  have HP:=Qh (fun W=> qo2 r [48] W)
  have hw:=qok h0
  have hc1:=qis r (wholeF r)
  have hc2:=qis t (fracF t)
  have hc3:=qis u (expF u)
  rw [←ht]at hc1
  rw [←hu]at hc2
  rw [←hv]at hc3
  have hs1:=qag r
  have hs2:=qag t
  have hs3:=qag u
  have hs4:=qag v
  have hs0:=qag s
  have HF:=Qh (fun W=> qq9 W t (by have:=N.tl;omega))
  have HX:=Qh (fun W=> qy8 W u (by have:=N.ul;omega))
  have HN:=Qh (show ((numF s:Nat):Int)=(s.length:Int) - (v.length:Int)from by have:=N.num;have:=N.le;omega)
  have i1:(wholeF r:Int)≤(r.length:Int):=by have:=N.w;omega
  have i2:(fracF t:Int)≤(t.length:Int):=by have:=N.f;omega
  have i3:(expF u:Int)≤(u.length:Int):=by have:=N.e;omega
  have i4:(v.length:Int)≤(s.length:Int):=by have:=N.le;omega
  have i5:(s.length:Int)≤1000000000:=by omega
  have h0':¬(digF r:Int)=0:=by omega
  rw [HN.out];have hw2:[48].isPrefixOf r=true∧wholeF r=1∨[48].isPrefixOf r=false∧wholeF r=digF r:=by
   cases hq:[48].isPrefixOf r with
   | true=> left;refine ⟨rfl, ?_⟩;rw [hw,hq];rfl
   | false=> right;refine ⟨rfl, ?_⟩;rw [hw,hq];rfl
  clear N hw ht hu hv hr h0 HN hl;generalize sb s=S at*;generalize [48].isPrefixOf r=q at*;generalize sb r=R at*;generalize sb t=T at*;generalize sb u=U at*;generalize sb v=V at*;generalize s.length=ls at*;generalize r.length=lr at*;generalize t.length=lt at*;generalize u.length=lu at*;generalize v.length=lv at*;generalize wholeF r=kw at*;generalize fracF t=kf at*;generalize expF u=ke at*;generalize digF r=kd at*;go_enter Tryz.func151,Tryz.ntmps151
  go_wp2_with fail;refine HT.out.mono ?_
  rintro e w1 ⟨rfl,rfl⟩;go_wp2_with fail;refine (HG.out _).mono ?_
  rintro e w2 ⟨rfl,B2⟩;have HB2:=Qh B2
  clear B2;go_wp2_with fail;refine (HP.out _).mono ?_
  rintro e w3 ⟨rfl,rfl⟩;rcases hw2 with ⟨rfl,rfl⟩ | ⟨rfl,rfl⟩
  ·go_wp2_with fail
   refine (HF.out _).mono ?_
   rintro e w4 ⟨rfl,B4⟩;have HB4:=Qh (HB2.out.trans (B4.mono HB2.out.size))
   clear B4;go_wp2_with fail;refine (HX.out _).mono ?_
   rintro e w5 ⟨rfl,B5⟩;have HB5:=Qh (HB4.out.trans (B5.mono HB4.out.size))
   clear B5;go_wp2_with fail;go_ret;exact ⟨rfl,HB5.out⟩
  ·go_wp2_with fail
   refine (HF.out _).mono ?_
   rintro e w4 ⟨rfl,B4⟩;have HB4:=Qh (HB2.out.trans (B4.mono HB2.out.size))
   clear B4;go_wp2_with fail;refine (HX.out _).mono ?_
   rintro e w5 ⟨rfl,B5⟩;have HB5:=Qh (HB4.out.trans (B5.mono HB4.out.size))
   clear B5;go_wp2_with fail;go_ret;exact ⟨rfl,HB5.out⟩
namespace Jt
end Jt
end Go.Proofs.YtgmangikcfakgaaGreatDoor
