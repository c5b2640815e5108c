import Derived.Test.YtgmangikcfakgaaGreatDoorPA10
set_option maxRecDepth 100000
set_option maxHeartbeats 40000000
namespace Go.Proofs.YtgmangikcfakgaaGreatDoor
open Go.RowKit Sh
namespace Jt
def contF (n:Nat):Nat→List UInt8→Option Nat
 | 0,_=> some n
 | m+1,b::r=> if goes b=true then contF (n*64+(b.toNat - 128)) m r else none
 | _+1,[]=> none
def leastF:Nat→Nat
 | 2=> 128
 | 3=> 2048
 | _=> 65536
def finF (k:Nat):Option Nat→Nat×Nat
 | some n=> if leastF k≤n∧scalar n=true then (n,k) else (0,0)
 | none=> (0,0)
theorem qj2 (k n L:Nat) (h:leastF k=L):finF k (some n)=if L≤n∧scalar n=true then (n,k) else (0,0):=by
 subst h
 rfl
theorem qhv (n:Nat) (r:List UInt8):contF n 0 r=some n:=by rw [contF]
theorem qbi {n m:Nat} {b:UInt8} {r:List UInt8} (h:goes b=true):contF n (m+1) (b::r)=contF (n*64+(b.toNat - 128)) m r:=by rw [contF,if_pos h]
theorem qbx {n m:Nat} {b:UInt8} {r:List UInt8} (h:goes b=false):contF n (m+1) (b::r)=none:=by rw [contF,h];rfl
theorem q0c {a:UInt8} {r:List UInt8} (h:192≤a.toNat∧a.toNat < 224):charF (a::r)=finF 2 (contF (a.toNat - 192) 1 r):=by
 rw [charF,if_neg (by omega),if_pos h]
 match r with
 | []=> rfl
 | b::t=>
  rw [char2];cases hb:goes b with
  | false=> rw [qbx hb,if_neg (fun h=> by cases h.1)];rfl
  | true=>
   have g:=qat.1 hb
   rw [qbi hb];rw [qhv,qj2 2 _ 128 rfl];change _=if 128≤two a b∧scalar (two a b)=true then (two a b,2) else (0,0)
   have hs:scalar (two a b)=true:=qal.2 (by unfold two;omega)
   by_cases h3:128≤two a b
   ·rw [if_pos ⟨rfl,h3⟩,if_pos ⟨h3,hs⟩]
   ·rw [if_neg (fun h=> h3 h.2),if_neg (fun h=> h3 h.1)]
theorem qtc {a:UInt8} {r:List UInt8} (h:224≤a.toNat∧a.toNat < 240):charF (a::r)=finF 3 (contF (a.toNat - 224) 2 r):=by
 rw [charF,if_neg (by omega),if_neg (by omega),if_pos h]
 match r with
 | []=> rfl
 | [b]=>
  rw [char3];cases hb:goes b with
  | false=> rw [qbx hb];rfl
  | true=> rw [qbi hb];rfl
  ·intro b c t e;cases e
 | b::c::t=>
  rw [char3];cases hb:goes b with
  | false=> rw [qbx hb,if_neg (fun h=> by cases h.1)];rfl
  | true=>
   rw [qbi hb];cases hc:goes c with
   | false=> rw [qbx hc,if_neg (fun h=> by cases h.2.1)];rfl
   | true=>
    rw [qbi hc];rw [qhv,qj2 3 _ 2048 rfl];change _=if 2048≤three a b c∧scalar (three a b c)=true then (three a b c,3) else (0,0)
    by_cases h3:2048≤three a b c∧scalar (three a b c)=true
    ·rw [if_pos ⟨rfl,rfl,h3⟩,if_pos h3]
    ·rw [if_neg (fun h=> h3 h.2.2),if_neg h3]
theorem qxy {a:UInt8} {r:List UInt8} (h:240≤a.toNat∧a.toNat < 248):charF (a::r)=finF 4 (contF (a.toNat - 240) 3 r):=by
 rw [charF,if_neg (by omega),if_neg (by omega),if_neg (by omega),if_pos h]
 match r with
 | []=> rfl
 | [b]=>
  rw [char4];cases hb:goes b with
  | false=> rw [qbx hb];rfl
  | true=> rw [qbi hb];rfl
  ·intro b c d t e;cases e
 | [b,c]=>
  rw [char4];cases hb:goes b with
  | false=> rw [qbx hb];rfl
  | true=>
   rw [qbi hb];cases hc:goes c with
   | false=> rw [qbx hc];rfl
   | true=> rw [qbi hc];rfl
  ·intro b c d t e;cases e
 | b::c::d::t=>
  rw [char4];cases hb:goes b with
  | false=> rw [qbx hb,if_neg (fun h=> by cases h.1)];rfl
  | true=>
   rw [qbi hb];cases hc:goes c with
   | false=> rw [qbx hc,if_neg (fun h=> by cases h.2.1)];rfl
   | true=>
    rw [qbi hc];cases hd:goes d with
    | false=> rw [qbx hd,if_neg (fun h=> by cases h.2.2.1)];rfl
    | true=>
     rw [qbi hd];rw [qhv,qj2 4 _ 65536 rfl];change _=if 65536≤four a b c d∧scalar (four a b c d)=true then (four a b c d,4) else (0,0)
     by_cases h3:65536≤four a b c d∧scalar (four a b c d)=true
     ·rw [if_pos ⟨rfl,rfl,rfl,h3⟩,if_pos h3]
     ·rw [if_neg (fun h=> h3 h.2.2.2),if_neg h3]
def charV (p:Nat×Nat):Value:= .tuple #[.int .i64 (p.1:Int), .int .i64 (p.2:Int)]
theorem qe4 (a:UInt8) (r:List UInt8) (k:Nat) (h1:1≤k) (h:k - 1 < r.length) (W:World):(Instr.index 9 (.string (sb (a::r))) (.int .i64 (k:Int))).run Tryz.prog W= .ok (.int .u8 (n8 r[k - 1])) W:=by
 obtain ⟨m,rfl⟩:∃m,k=m+1:=⟨k - 1,by omega⟩
 exact qam (a::r) (m+1) (by simpa using h) W
theorem qgc {k n:Nat} (h:¬(leastF k≤n∧scalar n=true)):finF k (some n)=(0,0):=if_neg h
theorem qlz {k n:Nat} (h:leastF k≤n) (h2:scalar n=true):finF k (some n)=(n,k):=if_pos ⟨h,h2⟩
theorem qjl {n:Nat} (h:¬scalar n=true):55296≤n∧n < 57344∨1114111 < n:=by
 have h3:¬(n < 55296∨57344≤n∧n≤1114111):=fun h2=> h (qal.2 h2)
 omega
end Jt
open Jt
theorem qrk (w:World) (a:UInt8) (r:List UInt8) (hl:r.length≤1000000000) (h:192≤a.toNat∧a.toNat < 224):Calls Tryz.prog 83 #[.string (sb (a::r))] w fun e w'=> e= .returned (charV (charF (a::r)))∧Below w.heap.size w w':=by
 rw [q0c h]
 have hid:∀W,(Instr.index 137 (.agg #[.int .i64 0, .int .i64 0, .int .i64 128, .int .i64 2048, .int .i64 65536]) (.int .i64 2)).run Tryz.prog W= .ok (.int .i64 128) W:=fun W=> by
  simp [Instr.index,run_underlying Tryz.underlying137,asIntOf]
  kernel_rfl
 have hix:∀W,(Instr.index 9 (.string (sb (a::r))) (.int .i64 0)).run Tryz.prog W= .ok (.int .u8 (n8 a)) W:=fun W=> qam (a::r) 0 (by simp) W
 have HJ:=Qh (qe4 a r)
 have hsz:=qag (a::r)
 rw [List.length_cons]at hsz
 have ha1:192≤n8 a:=by unfold n8;omega
 have ha2:n8 a < 224:=by unfold n8;omega
 have HA:=Qh (show n8 a - 192=((a.toNat - 192:Nat):Int)from by unfold n8;omega)
 have HB:=Qh (show a.toNat - 192 < 32 from by omega)
 obtain ⟨ln,hln⟩:∃ln,ln=r.length+1:=⟨_,rfl⟩
 rw [←hln]at hsz
 have HLN:=Qh hln
 have hlb:(ln:Int)≤1000000001:=by omega
 clear hln h
 generalize n8 a=d at*
 generalize a.toNat - 192=n0 at*
 generalize hS:sb (a::r)=S at*
 clear hS
 go_enter Tryz.func83,Tryz.ntmps83
 go_upto_region 6 with fail
 go_quiet (fail)
 go_wp2_with fail
 go_loopg [5,6] 1 (fun g vn vk wx=> ∃(k n:Nat) (z:Int),k+g=2∧1≤k∧vn= .int .i64 z∧vk= .int .i64 (k:Int)∧0≤z∧z < 2097152∧wx=w.drewN nq∧Hid (z=(n:Int)∧n < 32*64 ^ (k - 1))∧Hid (contF n0 1 r=contF n (2 - k) (r.drop (k - 1))))
 case atStart=> exact ⟨1,n0,_,by omega,Nat.le_refl _,rfl,rfl,by omega,by omega,rfl,Qh ⟨HA.out,by simpa using HB.out⟩,Qh rfl⟩
 case round=>
  obtain ⟨k,n,z,hkg,hk1,rfl,rfl,hz0,hz1,rfl,HZ,HC⟩:=hrel
  cases gk with
  | zero=>
   obtain rfl:k=2:=by omega
   have HN:=Qh (show contF n0 1 r=some n from by rw [HC.out];rfl)
   by_cases hle:z < 128
   ·have HF:=Qh (show charV (finF 2 (contF n0 1 r))= .tuple #[.int .i64 0, .int .i64 0]from by
     have hn:¬128≤n:=by have:=HZ.out.1;omega
     rw [HN.out,qgc (fun h=> hn h.1)];rfl)
    go_wp2_with fail;go_ret2;exact ⟨by rw [HF.out];rfl,qaa (Below.refl _ _) _⟩
   by_cases hsc:scalar n=true
   ·have HF:=Qh (show charV (finF 2 (contF n0 1 r))= .tuple #[.int .i64 z, .int .i64 2]from by
     have hn:128≤n:=by have:=HZ.out.1;omega
     rw [HN.out,qlz hn hsc,HZ.out.1];rfl)
    have hs2:z < 55296∨57344≤z∧z≤1114111:=by have:=qal.1 hsc;have:=HZ.out.1;omega
    clear hsc;rcases hs2 with h | ⟨h,h'⟩
    ·go_wp2_with fail
     all_goals go_ret2
     all_goals exact ⟨by rw [HF.out];rfl,qaa (Below.refl _ _) _⟩
    ·go_wp2_with fail
     all_goals go_ret2
     all_goals exact ⟨by rw [HF.out];rfl,qaa (Below.refl _ _) _⟩
   ·have HF:=Qh (show charV (finF 2 (contF n0 1 r))= .tuple #[.int .i64 0, .int .i64 0]from by
     rw [HN.out,qgc (fun h=> hsc h.2)];rfl)
    have hs2:55296≤z∧z < 57344∨1114111 < z:=by have:=qjl hsc;have:=HZ.out.1;omega
    clear hsc;rcases hs2 with ⟨h,h'⟩ | h
    ·go_wp2_with fail
     all_goals go_ret2
     all_goals exact ⟨by rw [HF.out];rfl,qaa (Below.refl _ _) _⟩
    ·go_wp2_with fail
     all_goals go_ret2
     all_goals exact ⟨by rw [HF.out];rfl,qaa (Below.refl _ _) _⟩
  | succ g=>
   have hki:(k:Int) < 2:=by omega
   have hk0:1≤(k:Int):=by omega
   by_cases hkl:k < ln
   ·have hj:k - 1 < r.length:=by have:=HLN.out;omega
    have hix2:=HJ.out k hk1 hj
    have hdr:=at_of r hj
    rw [show k - 1+1=k by omega]at hdr
    have HC2:=HC.out
    rw [hdr,show 2 - k=(2 - (k+1))+1 by omega]at HC2
    have hkl2:(k:Int) < (ln:Int):=by omega
    clear hdr;generalize r[k - 1]=b at*;cases hb:goes b with
    | true=>
     have hg:=qat.1 hb
     rw [qbi hb]at HC2
     have HE:=Qh (show z*64+n8 b - 128=((n*64+(b.toNat - 128):Nat):Int)∧n*64+(b.toNat - 128) < 32*64 ^ (k+1 - 1)from by
      obtain ⟨h1,h2⟩:=HZ.out
      have hp:(64:Nat) ^ (k+1 - 1)=64 ^ (k - 1)*64:=by
       rw [show k+1 - 1=(k - 1)+1 by omega,Nat.pow_succ]
      unfold n8;rw [hp];omega)
     have hzb:z < 32:=by
      obtain ⟨h1,h2⟩:=HZ.out
      have:(64:Nat) ^ (k - 1)≤64 ^ 0:=Nat.pow_le_pow_right (by decide) (by omega)
      omega
     have hd1:128≤n8 b:=by unfold n8;omega
     have hd2:n8 b≤191:=by unfold n8;omega
     have HC3:=Qh HC2
     clear HC2 HC hb hg hj hkl;generalize n8 b=e at*;go_wp2_with fail;go_roundg g
     case measure=> omega
     case rel=> exact ⟨k+1,_,z*64+e - 128,by omega,by omega,(by first | rfl | go_num),by go_num,by omega,by omega,rfl,HE,HC3⟩
    | false=>
     have hg:¬(128≤b.toNat∧b.toNat≤191):=fun h=> by rw [qat.2 h]at hb;cases hb
     rw [qbx hb]at HC2
     have HF:=Qh (show charV (finF 2 (contF n0 1 r))= .tuple #[.int .i64 0, .int .i64 0]from by rw [HC2];rfl)
     have hd:n8 b < 128∨191 < n8 b:=by unfold n8;omega
     clear HC2 HC hb hg hj hkl;generalize n8 b=e at*;rcases hd with hd | hd
     ·go_wp2_with fail
      all_goals go_ret2
      all_goals exact ⟨by rw [HF.out];rfl,qaa (Below.refl _ _) _⟩
     ·have hd2:¬e < 128:=by omega
      go_wp2_with fail;all_goals go_ret2
      all_goals exact ⟨by rw [HF.out];rfl,qaa (Below.refl _ _) _⟩
   ·have HF:=Qh (show charV (finF 2 (contF n0 1 r))= .tuple #[.int .i64 0, .int .i64 0]from by
     rw [HC.out,List.drop_eq_nil_of_le (by have:=HLN.out;omega),show 2 - k=(2 - (k+1))+1 by omega]
     rfl)
    have hkl2:¬(k:Int) < (ln:Int):=by omega
    clear hkl HC;go_wp2_with fail;go_ret2;exact ⟨by rw [HF.out];rfl,qaa (Below.refl _ _) _⟩
theorem qoa (w:World) (a:UInt8) (r:List UInt8) (hl:r.length≤1000000000) (h:224≤a.toNat∧a.toNat < 240):Calls Tryz.prog 83 #[.string (sb (a::r))] w fun e w'=> e= .returned (charV (charF (a::r)))∧Below w.heap.size w w':=by
 rw [qtc h]
 have hid:∀W,(Instr.index 137 (.agg #[.int .i64 0, .int .i64 0, .int .i64 128, .int .i64 2048, .int .i64 65536]) (.int .i64 3)).run Tryz.prog W= .ok (.int .i64 2048) W:=fun W=> by
  simp [Instr.index,run_underlying Tryz.underlying137,asIntOf]
  kernel_rfl
 have hix:∀W,(Instr.index 9 (.string (sb (a::r))) (.int .i64 0)).run Tryz.prog W= .ok (.int .u8 (n8 a)) W:=fun W=> qam (a::r) 0 (by simp) W
 have HJ:=Qh (qe4 a r)
 have hsz:=qag (a::r)
 rw [List.length_cons]at hsz
 have ha1:224≤n8 a:=by unfold n8;omega
 have ha2:n8 a < 240:=by unfold n8;omega
 have HA:=Qh (show n8 a - 224=((a.toNat - 224:Nat):Int)from by unfold n8;omega)
 have HB:=Qh (show a.toNat - 224 < 16 from by omega)
 obtain ⟨ln,hln⟩:∃ln,ln=r.length+1:=⟨_,rfl⟩
 rw [←hln]at hsz
 have HLN:=Qh hln
 have hlb:(ln:Int)≤1000000001:=by omega
 clear hln h
 generalize n8 a=d at*
 generalize a.toNat - 224=n0 at*
 generalize hS:sb (a::r)=S at*
 clear hS
 go_enter Tryz.func83,Tryz.ntmps83
 go_upto_region 8 with fail
 go_quiet (fail)
 go_wp2_with fail
 go_loopg [5,6] 2 (fun g vn vk wx=> ∃(k n:Nat) (z:Int),k+g=3∧1≤k∧vn= .int .i64 z∧vk= .int .i64 (k:Int)∧0≤z∧z < 2097152∧wx=w.drewN nq∧Hid (z=(n:Int)∧n < 16*64 ^ (k - 1))∧Hid (contF n0 2 r=contF n (3 - k) (r.drop (k - 1))))
 case atStart=> exact ⟨1,n0,_,by omega,Nat.le_refl _,rfl,rfl,by omega,by omega,rfl,Qh ⟨HA.out,by simpa using HB.out⟩,Qh rfl⟩
 case round=>
  obtain ⟨k,n,z,hkg,hk1,rfl,rfl,hz0,hz1,rfl,HZ,HC⟩:=hrel
  cases gk with
  | zero=>
   obtain rfl:k=3:=by omega
   have HN:=Qh (show contF n0 2 r=some n from by rw [HC.out];rfl)
   by_cases hle:z < 2048
   ·have HF:=Qh (show charV (finF 3 (contF n0 2 r))= .tuple #[.int .i64 0, .int .i64 0]from by
     have hn:¬2048≤n:=by have:=HZ.out.1;omega
     rw [HN.out,qgc (fun h=> hn h.1)];rfl)
    go_wp2_with fail;go_ret2;exact ⟨by rw [HF.out];rfl,qaa (Below.refl _ _) _⟩
   by_cases hsc:scalar n=true
   ·have HF:=Qh (show charV (finF 3 (contF n0 2 r))= .tuple #[.int .i64 z, .int .i64 3]from by
     have hn:2048≤n:=by have:=HZ.out.1;omega
     rw [HN.out,qlz hn hsc,HZ.out.1];rfl)
    have hs2:z < 55296∨57344≤z∧z≤1114111:=by have:=qal.1 hsc;have:=HZ.out.1;omega
    clear hsc;rcases hs2 with h | ⟨h,h'⟩
    ·go_wp2_with fail
     all_goals go_ret2
     all_goals exact ⟨by rw [HF.out];rfl,qaa (Below.refl _ _) _⟩
    ·go_wp2_with fail
     all_goals go_ret2
     all_goals exact ⟨by rw [HF.out];rfl,qaa (Below.refl _ _) _⟩
   ·have HF:=Qh (show charV (finF 3 (contF n0 2 r))= .tuple #[.int .i64 0, .int .i64 0]from by
     rw [HN.out,qgc (fun h=> hsc h.2)];rfl)
    have hs2:55296≤z∧z < 57344∨1114111 < z:=by have:=qjl hsc;have:=HZ.out.1;omega
    clear hsc;rcases hs2 with ⟨h,h'⟩ | h
    ·go_wp2_with fail
     all_goals go_ret2
     all_goals exact ⟨by rw [HF.out];rfl,qaa (Below.refl _ _) _⟩
    ·go_wp2_with fail
     all_goals go_ret2
     all_goals exact ⟨by rw [HF.out];rfl,qaa (Below.refl _ _) _⟩
  | succ g=>
   have hki:(k:Int) < 3:=by omega
   have hk0:1≤(k:Int):=by omega
   by_cases hkl:k < ln
   ·have hj:k - 1 < r.length:=by have:=HLN.out;omega
    have hix2:=HJ.out k hk1 hj
    have hdr:=at_of r hj
    rw [show k - 1+1=k by omega]at hdr
    have HC2:=HC.out
    rw [hdr,show 3 - k=(3 - (k+1))+1 by omega]at HC2
    have hkl2:(k:Int) < (ln:Int):=by omega
    clear hdr;generalize r[k - 1]=b at*;cases hb:goes b with
    | true=>
     have hg:=qat.1 hb
     rw [qbi hb]at HC2
     have HE:=Qh (show z*64+n8 b - 128=((n*64+(b.toNat - 128):Nat):Int)∧n*64+(b.toNat - 128) < 16*64 ^ (k+1 - 1)from by
      obtain ⟨h1,h2⟩:=HZ.out
      have hp:(64:Nat) ^ (k+1 - 1)=64 ^ (k - 1)*64:=by
       rw [show k+1 - 1=(k - 1)+1 by omega,Nat.pow_succ]
      unfold n8;rw [hp];omega)
     have hzb:z < 1024:=by
      obtain ⟨h1,h2⟩:=HZ.out
      have:(64:Nat) ^ (k - 1)≤64 ^ 1:=Nat.pow_le_pow_right (by decide) (by omega)
      omega
     have hd1:128≤n8 b:=by unfold n8;omega
     have hd2:n8 b≤191:=by unfold n8;omega
     have HC3:=Qh HC2
     clear HC2 HC hb hg hj hkl;generalize n8 b=e at*;go_wp2_with fail;go_roundg g
     case measure=> omega
     case rel=> exact ⟨k+1,_,z*64+e - 128,by omega,by omega,(by first | rfl | go_num),by go_num,by omega,by omega,rfl,HE,HC3⟩
    | false=>
     have hg:¬(128≤b.toNat∧b.toNat≤191):=fun h=> by rw [qat.2 h]at hb;cases hb
     rw [qbx hb]at HC2
     have HF:=Qh (show charV (finF 3 (contF n0 2 r))= .tuple #[.int .i64 0, .int .i64 0]from by rw [HC2];rfl)
     have hd:n8 b < 128∨191 < n8 b:=by unfold n8;omega
     clear HC2 HC hb hg hj hkl;generalize n8 b=e at*;rcases hd with hd | hd
     ·go_wp2_with fail
      all_goals go_ret2
      all_goals exact ⟨by rw [HF.out];rfl,qaa (Below.refl _ _) _⟩
     ·have hd2:¬e < 128:=by omega
      go_wp2_with fail;all_goals go_ret2
      all_goals exact ⟨by rw [HF.out];rfl,qaa (Below.refl _ _) _⟩
   ·have HF:=Qh (show charV (finF 3 (contF n0 2 r))= .tuple #[.int .i64 0, .int .i64 0]from by
     rw [HC.out,List.drop_eq_nil_of_le (by have:=HLN.out;omega),show 3 - k=(3 - (k+1))+1 by omega]
     rfl)
    have hkl2:¬(k:Int) < (ln:Int):=by omega
    clear hkl HC;go_wp2_with fail;go_ret2;exact ⟨by rw [HF.out];rfl,qaa (Below.refl _ _) _⟩
theorem qor (w:World) (a:UInt8) (r:List UInt8) (hl:r.length≤1000000000) (h:240≤a.toNat∧a.toNat < 248):Calls Tryz.prog 83 #[.string (sb (a::r))] w fun e w'=> e= .returned (charV (charF (a::r)))∧Below w.heap.size w w':=by
 rw [qxy h]
 have hid:∀W,(Instr.index 137 (.agg #[.int .i64 0, .int .i64 0, .int .i64 128, .int .i64 2048, .int .i64 65536]) (.int .i64 4)).run Tryz.prog W= .ok (.int .i64 65536) W:=fun W=> by
  simp [Instr.index,run_underlying Tryz.underlying137,asIntOf]
  kernel_rfl
 have hix:∀W,(Instr.index 9 (.string (sb (a::r))) (.int .i64 0)).run Tryz.prog W= .ok (.int .u8 (n8 a)) W:=fun W=> qam (a::r) 0 (by simp) W
 have HJ:=Qh (qe4 a r)
 have hsz:=qag (a::r)
 rw [List.length_cons]at hsz
 have ha1:240≤n8 a:=by unfold n8;omega
 have ha2:n8 a < 248:=by unfold n8;omega
 have HA:=Qh (show n8 a - 240=((a.toNat - 240:Nat):Int)from by unfold n8;omega)
 have HB:=Qh (show a.toNat - 240 < 8 from by omega)
 obtain ⟨ln,hln⟩:∃ln,ln=r.length+1:=⟨_,rfl⟩
 rw [←hln]at hsz
 have HLN:=Qh hln
 have hlb:(ln:Int)≤1000000001:=by omega
 clear hln h
 generalize n8 a=d at*
 generalize a.toNat - 240=n0 at*
 generalize hS:sb (a::r)=S at*
 clear hS
 go_enter Tryz.func83,Tryz.ntmps83
 go_upto_region 10 with fail
 go_quiet (fail)
 go_wp2_with fail
 go_loopg [5,6] 3 (fun g vn vk wx=> ∃(k n:Nat) (z:Int),k+g=4∧1≤k∧vn= .int .i64 z∧vk= .int .i64 (k:Int)∧0≤z∧z < 2097152∧wx=w.drewN nq∧Hid (z=(n:Int)∧n < 8*64 ^ (k - 1))∧Hid (contF n0 3 r=contF n (4 - k) (r.drop (k - 1))))
 case atStart=> exact ⟨1,n0,_,by omega,Nat.le_refl _,rfl,rfl,by omega,by omega,rfl,Qh ⟨HA.out,by simpa using HB.out⟩,Qh rfl⟩
 case round=>
  obtain ⟨k,n,z,hkg,hk1,rfl,rfl,hz0,hz1,rfl,HZ,HC⟩:=hrel
  cases gk with
  | zero=>
   obtain rfl:k=4:=by omega
   have HN:=Qh (show contF n0 3 r=some n from by rw [HC.out];rfl)
   by_cases hle:z < 65536
   ·have HF:=Qh (show charV (finF 4 (contF n0 3 r))= .tuple #[.int .i64 0, .int .i64 0]from by
     have hn:¬65536≤n:=by have:=HZ.out.1;omega
     rw [HN.out,qgc (fun h=> hn h.1)];rfl)
    go_wp2_with fail;go_ret2;exact ⟨by rw [HF.out];rfl,qaa (Below.refl _ _) _⟩
   by_cases hsc:scalar n=true
   ·have HF:=Qh (show charV (finF 4 (contF n0 3 r))= .tuple #[.int .i64 z, .int .i64 4]from by
     have hn:65536≤n:=by have:=HZ.out.1;omega
     rw [HN.out,qlz hn hsc,HZ.out.1];rfl)
    have hs2:z < 55296∨57344≤z∧z≤1114111:=by have:=qal.1 hsc;have:=HZ.out.1;omega
    clear hsc;rcases hs2 with h | ⟨h,h'⟩
    ·exfalso;omega
    ·go_wp2_with fail
     all_goals go_ret2
     all_goals exact ⟨by rw [HF.out];rfl,qaa (Below.refl _ _) _⟩
   ·have HF:=Qh (show charV (finF 4 (contF n0 3 r))= .tuple #[.int .i64 0, .int .i64 0]from by
     rw [HN.out,qgc (fun h=> hsc h.2)];rfl)
    have hs2:55296≤z∧z < 57344∨1114111 < z:=by have:=qjl hsc;have:=HZ.out.1;omega
    clear hsc;rcases hs2 with ⟨h,h'⟩ | h
    ·exfalso;omega
    ·go_wp2_with fail
     all_goals go_ret2
     all_goals exact ⟨by rw [HF.out];rfl,qaa (Below.refl _ _) _⟩
  | succ g=>
   have hki:(k:Int) < 4:=by omega
   have hk0:1≤(k:Int):=by omega
   by_cases hkl:k < ln
   ·have hj:k - 1 < r.length:=by have:=HLN.out;omega
    have hix2:=HJ.out k hk1 hj
    have hdr:=at_of r hj
    rw [show k - 1+1=k by omega]at hdr
    have HC2:=HC.out
    rw [hdr,show 4 - k=(4 - (k+1))+1 by omega]at HC2
    have hkl2:(k:Int) < (ln:Int):=by omega
    clear hdr;generalize r[k - 1]=b at*;cases hb:goes b with
    | true=>
     have hg:=qat.1 hb
     rw [qbi hb]at HC2
     have HE:=Qh (show z*64+n8 b - 128=((n*64+(b.toNat - 128):Nat):Int)∧n*64+(b.toNat - 128) < 8*64 ^ (k+1 - 1)from by
      obtain ⟨h1,h2⟩:=HZ.out
      have hp:(64:Nat) ^ (k+1 - 1)=64 ^ (k - 1)*64:=by
       rw [show k+1 - 1=(k - 1)+1 by omega,Nat.pow_succ]
      unfold n8;rw [hp];omega)
     have hzb:z < 32768:=by
      obtain ⟨h1,h2⟩:=HZ.out
      have:(64:Nat) ^ (k - 1)≤64 ^ 2:=Nat.pow_le_pow_right (by decide) (by omega)
      omega
     have hd1:128≤n8 b:=by unfold n8;omega
     have hd2:n8 b≤191:=by unfold n8;omega
     have HC3:=Qh HC2
     clear HC2 HC hb hg hj hkl;generalize n8 b=e at*;go_wp2_with fail;go_roundg g
     case measure=> omega
     case rel=> exact ⟨k+1,_,z*64+e - 128,by omega,by omega,(by first | rfl | go_num),by go_num,by omega,by omega,rfl,HE,HC3⟩
    | false=>
     have hg:¬(128≤b.toNat∧b.toNat≤191):=fun h=> by rw [qat.2 h]at hb;cases hb
     rw [qbx hb]at HC2
     have HF:=Qh (show charV (finF 4 (contF n0 3 r))= .tuple #[.int .i64 0, .int .i64 0]from by rw [HC2];rfl)
     have hd:n8 b < 128∨191 < n8 b:=by unfold n8;omega
     clear HC2 HC hb hg hj hkl;generalize n8 b=e at*;rcases hd with hd | hd
     ·go_wp2_with fail
      all_goals go_ret2
      all_goals exact ⟨by rw [HF.out];rfl,qaa (Below.refl _ _) _⟩
     ·have hd2:¬e < 128:=by omega
      go_wp2_with fail;all_goals go_ret2
      all_goals exact ⟨by rw [HF.out];rfl,qaa (Below.refl _ _) _⟩
   ·have HF:=Qh (show charV (finF 4 (contF n0 3 r))= .tuple #[.int .i64 0, .int .i64 0]from by
     rw [HC.out,List.drop_eq_nil_of_le (by have:=HLN.out;omega),show 4 - k=(4 - (k+1))+1 by omega]
     rfl)
    have hkl2:¬(k:Int) < (ln:Int):=by omega
    clear hkl HC;go_wp2_with fail;go_ret2;exact ⟨by rw [HF.out];rfl,qaa (Below.refl _ _) _⟩
theorem qsn (w:World) (s:List UInt8) (hs:s≠[]) (hl:s.length≤1000000000):Calls Tryz.prog 83 #[.string (sb s)] w fun e w'=> e= .returned (charV (charF s))∧Below w.heap.size w w':=by
 match s,hs with
 | a::r,_=>
  rw [List.length_cons]at hl
  by_cases h2:192≤a.toNat∧a.toNat < 224
  ·exact qrk w a r (by omega) h2
  by_cases h3:224≤a.toNat∧a.toNat < 240
  ·exact qoa w a r (by omega) h3
  by_cases h4:240≤a.toNat∧a.toNat < 248
  ·exact qor w a r (by omega) h4
  have hix:∀W,(Instr.index 9 (.string (sb (a::r))) (.int .i64 0)).run Tryz.prog W= .ok (.int .u8 (n8 a)) W:=fun W=> qam (a::r) 0 (by simp) W
  by_cases h1:a.toNat < 128
  ·have HF:=Qh (show charV (charF (a::r))= .tuple #[.int .i64 (n8 a), .int .i64 1]from by rw [charF,if_pos h1];rfl)
   have hd:n8 a < 128:=by unfold n8;omega
   have hd0:=qec a
   clear h1 h2 h3 h4 hl;generalize n8 a=d at*;generalize hS:sb (a::r)=S at*;clear hS;go_enter Tryz.func83,Tryz.ntmps83
   go_wp2_with fail;go_ret2;exact ⟨by rw [HF.out];rfl,Below.refl _ _⟩
  ·have HF:=Qh (show charV (charF (a::r))= .tuple #[.int .i64 0, .int .i64 0]from by
    rw [charF,if_neg h1,if_neg h2,if_neg h3,if_neg h4];rfl)
   have hd:128≤n8 a∧n8 a < 192∨248≤n8 a:=by unfold n8;omega
   clear h1 h2 h3 h4 hl;generalize n8 a=d at*;generalize hS:sb (a::r)=S at*;clear hS;go_enter Tryz.func83,Tryz.ntmps83
   rcases hd with ⟨h,h'⟩ | h
   ·go_wp2_with fail
    go_ret2;exact ⟨by rw [HF.out];rfl,Below.refl _ _⟩
   ·go_wp2_with fail
    go_ret2;exact ⟨by rw [HF.out];rfl,Below.refl _ _⟩
end Go.Proofs.YtgmangikcfakgaaGreatDoor
namespace Go.Proofs.YtgmangikcfakgaaGreatDoor
open Go.RowKit Sh
namespace Jt
theorem sb_from' (l:List UInt8) (k n:Nat) (h:n=l.length):(sb l).extract k n=sb (l.drop k):=by
 subst h
 have:=qcj l k l.length
 rw [List.take_length]at this
 exact this
theorem qm2 (a:UInt8) (r:List UInt8) (k:Nat) (h:1≤k):(a::r).drop k=r.drop (k - 1):=by
 obtain ⟨m,rfl⟩:∃m,k=m+1:=⟨k - 1,by omega⟩
 rfl
theorem qxr {a:UInt8} {r:List UInt8} (h:(charF (a::r)).2≠0):(a::r).take (charF (a::r)).2=bytesF (charF (a::r)).1:=by
 obtain ⟨_,h2,t,h3⟩:=qcy h
 rw [h2]
 conv=> lhs;arg 2;rw [h3]
 rw [List.take_left]
theorem qfo {a:UInt8} {r:List UInt8} (h:(charF (a::r)).2≠0):1≤(charF (a::r)).2∧(charF (a::r)).2≤(a::r).length:=by
 obtain ⟨_,h2,t,h3⟩:=qcy h
 have hl:=congrArg List.length h3
 rw [List.length_append]at hl
 omega
theorem q0v {a:UInt8} {r:List UInt8} (h:(charF (a::r)).2≠0):validF (a::r)=validF ((a::r).drop (charF (a::r)).2):=by
 rw [validF,if_neg h,qm2 a r _ (qfo h).1]
theorem qyz {a:UInt8} {r:List UInt8} (h:(charF (a::r)).2≠0):quoteB (a::r)=(if (charF (a::r)).1 < 128 then oneF (charF (a::r)).1 else bytesF (charF (a::r)).1)++quoteB ((a::r).drop (charF (a::r)).2):=by
 conv=> lhs;rw [quoteB,if_neg h]
 rw [qm2 a r _ (qfo h).1]
theorem qoj {a b:List UInt8} (h:a.length+b.length≤9223372036854775807):¬9223372036854775807 < (sb a).size+(sb b).size:=by
 rw [qag,qag]
 omega
end Jt
open Jt
theorem qni (w:World) (s:List UInt8) (hl:s.length≤1000000000):Calls Tryz.prog 47 #[.string (sb s)] w fun e w'=> e= .returned (.bool (validF s))∧Below w.heap.size w w':=by
 go_enter Tryz.func47,Tryz.ntmps47
 go_wp2_with fail
 go_loopg [0] s.length (fun g vs wx=> ∃t:List UInt8,vs= .string (sb t)∧t.length=g∧g≤1000000000∧Hid (validF s=validF t)∧Hid (Below w.heap.size w wx))
 case atStart=> exact ⟨s,rfl,rfl,hl,Qh rfl,Qh (Below.refl _ _)⟩
 case round=>
  obtain ⟨t,rfl,htl,hgl,HV,HB⟩:=hrel
  match t with
  | []=>
   have h1:(sb []).toList=[]:=qab _
   have HE:=Qh (show validF s=true from by rw [HV.out,qa8])
   go_wp2_with fail;go_ret;exact ⟨by rw [HE.out];rfl,HB.out⟩
  | a::r=>
   have h1:¬(sb (a::r)).toList=[]:=by rw [qab];exact List.cons_ne_nil _ _
   have h2:(sb (a::r)).toList.isEmpty=false:=by rw [qab];rfl
   have HC:=Qh (qsn wr (a::r) (List.cons_ne_nil _ _) (by rw [htl];exact hgl))
   by_cases h0:(charF (a::r)).2=0
   ·have HE:=Qh (show validF s=false from by rw [HV.out,qnd h0])
    have hc:charF (a::r)=(0,0)∨True:= .inr trivial
    clear hc;unfold charV at HC;rw [h0]at HC
    generalize ((charF (a::r)).1:Int)=z at*;generalize hS:sb (a::r)=S at*;clear hS h0;go_wp2_with fail;refine HC.out.mono ?_
    rintro e w2 ⟨rfl,B2⟩;have HB2:=Qh (HB.out.trans (B2.mono HB.out.size))
    clear B2;go_wp2_with fail;go_ret;exact ⟨by rw [HE.out];rfl,HB2.out⟩
   ·have HV2:=Qh (HV.out.trans (q0v h0))
    obtain ⟨c1,c2⟩:=qfo h0
    have hcut:=sb_from' (a::r) (charF (a::r)).2 gk htl.symm
    have hsz:=qag (a::r)
    have HL:=Qh (show ((a::r).drop (charF (a::r)).2).length=gk - (charF (a::r)).2 from by rw [List.length_drop,htl])
    rw [htl]at hsz c2
    unfold charV at HC;clear h0 htl HV;generalize (a::r).drop (charF (a::r)).2=t2 at*;generalize ((charF (a::r)).1:Int)=z at*;generalize (charF (a::r)).2=k at*;generalize hS:sb (a::r)=S at*;clear hS;have hk0:¬(k:Int)=0:=by omega
    have hk1:(k:Int)≤(gk:Int):=by omega
    go_wp2_with fail;refine HC.out.mono ?_
    rintro e w2 ⟨rfl,B2⟩;have HB2:=Qh (HB.out.trans (B2.mono HB.out.size))
    clear B2;go_wp2_with fail;go_roundg (gk - k)
    case measure=> omega
    case rel=> exact ⟨t2,rfl,HL.out,by omega,HV2,HB2⟩
end Go.Proofs.YtgmangikcfakgaaGreatDoor
