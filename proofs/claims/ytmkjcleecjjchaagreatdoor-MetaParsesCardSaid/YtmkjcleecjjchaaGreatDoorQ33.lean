import Derived.Test.YtmkjcleecjjchaaGreatDoorQ32
namespace Go.Proofs.YtmkjcleecjjchaaGreatDoor
open Go.RowKit Sh
namespace Jt
theorem fold_big {v:Nat} {a:UInt8} {r:List UInt8} {M:Nat} (h:M < v*10+(a.toNat - 48)):M < foldV v (a::r):=by
 rw [fold_cons]
 have:=fold_ge r (v*10+(a.toNat - 48))
 omega
theorem int_over_neg {s:List UInt8} (hm:minF s=1) (h:9223372036854775808 < valF (s.drop 1)):intF s=none:=by
 unfold intF
 split
 ·rfl
 ·rw [if_neg (by omega)]
theorem int_over_pos {s:List UInt8} (hm:minF s=0) (h:9223372036854775807 < valF s):intF s=none:=by
 unfold intF
 split
 ·rfl
 ·rw [if_neg (by omega),if_neg (by omega)]
theorem int_nodig {s:List UInt8} (h:(s.drop (minF s)).all isD=false):intF s=none:=by
 unfold intF
 rw [if_pos (.inr (.inr (.inr h)))]
theorem int_yes_neg {s:List UInt8} (hm:minF s=1) (hn:numF s=s.length) (h0:s≠[]) (h1:s≠[45,48]) (ha:(s.drop 1).all isD=true) (hv:valF (s.drop 1)≤9223372036854775808):intF s=some (-(valF (s.drop 1):Int)):=by
 unfold intF
 rw [if_neg (by
  rintro (h | h | h | h)
  ·exact h0 h
  ·exact h1 h
  ·exact h hn
  ·rw [hm,ha]at h;cases h),if_pos hm,if_pos hv]
theorem int_yes_pos {s:List UInt8} (hm:minF s=0) (hn:numF s=s.length) (h0:s≠[]) (h1:s≠[45,48]) (ha:s.all isD=true) (hv:valF s≤9223372036854775807):intF s=some (valF s:Int):=by
 unfold intF
 rw [if_neg (by
  rintro (h | h | h | h)
  ·exact h0 h
  ·exact h1 h
  ·exact h hn
  ·rw [hm,List.drop_zero,ha]at h;cases h),if_neg (by omega),if_pos hv]
structure IntAt (r:List UInt8) (j v:Nat):Prop where
 val:valF r=foldV v (r.drop j)
 all:r.all isD=(r.drop j).all isD
theorem IntAt.start (r:List UInt8):IntAt r 0 0:=⟨rfl,rfl⟩
theorem IntAt.next {r:List UInt8} {j v:Nat} (h:IntAt r j v) (hj:j < r.length) (hd:isD r[j]=true):IntAt r (j+1) (v*10+(r[j].toNat - 48)):=by
 have h1:=h.val
 have h2:=h.all
 rw [at_of r hj]at h1 h2
 rw [fold_cons]at h1
 rw [List.all_cons,hd,Bool.true_and]at h2
 exact ⟨h1,h2⟩
theorem IntAt.not {r:List UInt8} {j v:Nat} (h:IntAt r j v) (hj:j < r.length) (hd:isD r[j]=false):r.all isD=false:=by
 rw [h.all,at_of r hj,List.all_cons,hd]
 rfl
theorem IntAt.big {r:List UInt8} {j v M:Nat} (h:IntAt r j v) (hj:j < r.length) (hb:M < v*10+(r[j].toNat - 48)):M < valF r:=by
 rw [h.val,at_of r hj]
 exact fold_big hb
theorem IntAt.over {r:List UInt8} {v:Nat} (h:IntAt r r.length v):valF r=v∧r.all isD=true:=by
 have h1:=h.val
 have h2:=h.all
 rw [List.drop_length]at h1 h2
 exact ⟨h1,h2⟩
end Jt
open Jt
set_option maxRecDepth 100000 in
set_option maxHeartbeats 8000000 in
theorem jt_rint_pos (w:World) (s:List UInt8) (hl:s.length≤1000000000) (hn:numF s=s.length) (h0:s≠[]) (h1:s≠[45,48]) (hm:minF s=0):Calls Tryz.prog 66 #[.string (sb s)] w fun e w'=> e= .returned (intV (intF s))∧w'=w:=by
 have HNM:=Lib.hid (jt_rnumber w s hl)
 rw [hn]at HNM
 have hst0:¬(sb s).toList=[]:=by rw [sb_list];exact h0
 have hst1:(sb s).toList.isEmpty=false:=by
  rw [sb_list]
  cases s with
  | nil=> exact absurd rfl h0
  | cons _ _=> rfl
 have hst:((sb s).toList==[45,48])=false:=by rw [sb_list];exact beq_eq_false_iff_ne.2 h1
 have HX:=Lib.hid (fun (j:Nat) (hj:j < s.length) W=> sb_index s j hj W)
 have hsz:=sb_size s
 have hpos:0 < s.length:=List.length_pos_iff.2 h0
 have h45:¬n8 s[0]=45:=fun e=> by
  have ha:s[0]=45:=n8_is (c:=45) e
  match s,hpos with
  | a::r,_=>
   have ha:a=45:=ha
   subst ha
   cases hm
 have hix0:∀W,(Instr.index 9 (.string (sb s)) (.int .i64 0)).run Tryz.prog W= .ok (.int .u8 (n8 s[0])) W:=fun W=> sb_index s 0 hpos W
 have HOver:=Lib.hid (fun (h:9223372036854775807 < valF s)=> int_over_pos hm h)
 have HNo:=Lib.hid (fun (h:s.all isD=false)=> int_nodig (s:=s) (by rw [hm,List.drop_zero];exact h))
 have HYes:=Lib.hid (fun ha hv=> int_yes_pos (s:=s) hm hn h0 h1 ha hv)
 have HA0:=Lib.hid (show n8 s[0]=n8 s[0]from rfl)
 clear hn h0 h1 hm HA0
 obtain ⟨d0,hd0⟩:∃d0,d0=n8 s[0]:=⟨_,rfl⟩
 rw [←hd0]at h45 hix0
 have HD0:=Lib.hid hd0
 clear hd0
 generalize hS:sb s=S at*
 clear hS
 go_enter Tryz.func66,Tryz.ntmps66
 go_wp2_with fail
 refine HNM.out.mono ?_
 rintro e w2 ⟨rfl,rfl⟩
 go_wp2_with fail
 go_loopg [4,5] s.length (fun g vn vi wx=> ∃(i v:Nat) (z:Int),i+g=s.length∧vn= .int .i64 z∧vi= .int .i64 (i:Int)∧0≤z∧z≤9223372036854775807∧wx=w2∧Hid (z=(v:Int))∧Hid (IntAt s i v))
 case atStart=> exact ⟨0,0,0,by omega,rfl,rfl,by omega,by omega,rfl,Lib.hid rfl,Lib.hid (IntAt.start s)⟩
 case round=>
  obtain ⟨i,v,z,hig,rfl,rfl,hz0,hz1,rfl,HZ,HI⟩:=hrel
  cases gk with
  | zero=>
   obtain rfl:i=s.length:=by omega
   have HF:=Lib.hid (show intF s=some z from by
    obtain ⟨e1,e2⟩:=HI.out.over
    rw [HYes.out e2 (by rw [e1];have:=HZ.out;omega),e1,HZ.out])
   clear HI HX
   go_wp2_with fail
   go_ret2
   exact ⟨by rw [HF.out];rfl,rfl⟩
  | succ g=>
   have hi:i < s.length:=by omega
   have hii:(i:Int) < (s.length:Int):=by omega
   have hix:=HX.out i hi
   cases hd:isD s[i]with
   | false=>
    have HF:=Lib.hid (HNo.out (HI.out.not hi hd))
    have hg:¬(48≤s[i].toNat∧s[i].toNat≤57):=fun h=> by rw [isD_is.2 h]at hd;cases hd
    have e1:n8 s[i] < 48∨57 < n8 s[i]:=by unfold n8;omega
    by_cases hm:n8 s[i]=45
    ·have hi0:¬(i:Int)=0:=fun e=> by
      obtain rfl:i=0:=by omega
      exact h45 (by rw [HD0.out];exact hm)
     rw [hm]at hix
     clear hd hg HI HX e1 hm
     go_wp2_with fail
     all_goals go_ret2
     all_goals exact ⟨by rw [HF.out];rfl,rfl⟩
    ·clear hd hg HI HX
     generalize n8 s[i]=d at*
     rcases e1 with e1 | e1
     ·go_wp2_with fail
      all_goals go_ret2
      all_goals exact ⟨by rw [HF.out];rfl,rfl⟩
     ·have e2:¬d < 48:=by omega
      go_wp2_with fail
      all_goals go_ret2
      all_goals exact ⟨by rw [HF.out];rfl,rfl⟩
   | true=>
    have hg:=isD_is.1 hd
    have e1:48≤n8 s[i]:=by unfold n8;omega
    have e2:n8 s[i]≤57:=by unfold n8;omega
    obtain ⟨q,hq⟩:∃q,q=(9223372036854775807 - (n8 s[i] - 48)) / 10:=⟨_,rfl⟩
    by_cases hb:9223372036854775807 < v*10+(s[i].toNat - 48)
    ·have HF:=Lib.hid (HOver.out (HI.out.big hi hb))
     have hzq:q < z:=by have:=HZ.out;unfold n8 at hq;omega
     clear hd hg HI HX hb
     generalize n8 s[i]=d at*
     have hm:¬d=45:=by omega
     have hq':=hq.symm
     clear hq
     go_wp2_with fail
     all_goals go_ret2
     all_goals exact ⟨by rw [HF.out];rfl,rfl⟩
    ·have HN:=Lib.hid (HI.out.next hi hd)
     have HZN:=Lib.hid (show 10*z+(n8 s[i] - 48)=((v*10+(s[i].toNat - 48):Nat):Int)from by have:=HZ.out;unfold n8;omega)
     have hzb:10*z+(n8 s[i] - 48)≤9223372036854775807:=by have:=HZN.out;omega
     have hzq:¬q < z:=by have:=HZ.out;unfold n8 at hq;omega
     clear hd hg HI hb
     generalize n8 s[i]=d at*
     have hm:¬d=45:=by omega
     have hq':=hq.symm
     have hz2:z≤922337203685477580:=by omega
     clear hq
     go_wp2_with fail
     go_roundg g
     case measure=> omega
     case rel=> exact ⟨i+1,_,10*z+(d - 48),by omega,(by first | rfl | go_num),by go_num,by omega,hzb,rfl,HZN,HN⟩
set_option maxRecDepth 100000 in
set_option maxHeartbeats 8000000 in
theorem jt_rint_neg (w:World) (r:List UInt8) (hl:r.length≤999999999) (hn:numF (45::r)=r.length+1) (h1:45::r≠[45,48]):Calls Tryz.prog 66 #[.string (sb (45::r))] w fun e w'=> e= .returned (intV (intF (45::r)))∧w'=w:=by
 have hm:minF (45::r)=1:=rfl
 have HNM:=Lib.hid (jt_rnumber w (45::r) (by rw [List.length_cons];omega))
 rw [hn]at HNM
 have hst0:¬(sb (45::r)).toList=[]:=by rw [sb_list];exact List.cons_ne_nil _ _
 have hst1:(sb (45::r)).toList.isEmpty=false:=by rw [sb_list];rfl
 have hst:((sb (45::r)).toList==[45,48])=false:=by rw [sb_list];exact beq_eq_false_iff_ne.2 h1
 have HX:=Lib.hid (idx_tail 45 r)
 obtain ⟨ln,hln⟩:∃ln,ln=r.length+1:=⟨_,rfl⟩
 have hsz:(sb (45::r)).size=ln:=hln.symm
 have hix0:∀W,(Instr.index 9 (.string (sb (45::r))) (.int .i64 0)).run Tryz.prog W= .ok (.int .u8 45) W:=fun W=> sb_index (45::r) 0 (by simp) W
 have HOver:=Lib.hid (fun (h:9223372036854775808 < valF r)=> int_over_neg hm h)
 have HNo:=Lib.hid (fun (h:r.all isD=false)=> int_nodig (s:=45::r) h)
 have HYes:=Lib.hid (fun ha hv=> int_yes_neg (s:=45::r) hm hn (List.cons_ne_nil _ _) h1 ha hv)
 rw [←hln]at HNM
 have HLN:=Lib.hid hln
 have hlb:(ln:Int)≤1000000000:=by omega
 have hlp:0 < (ln:Int):=by omega
 clear hn h1 hm hln
 have hG:Hid (∀v:Option Int,intF (45::r)=v→intV (intF (45::r))=intV v):=Lib.hid (fun v h=> by rw [h])
 generalize hS:sb (45::r)=S at*
 clear hS
 go_enter Tryz.func66,Tryz.ntmps66
 go_wp2_with fail
 refine HNM.out.mono ?_
 rintro e w2 ⟨rfl,rfl⟩
 go_wp2_with fail
 go_loopg [4,5] ln (fun g vn vi wx=> ∃(i v:Nat) (z:Int),i+g=ln∧vn= .int .i64 z∧vi= .int .i64 (i:Int)∧ -9223372036854775808≤z∧z≤0∧wx=w2∧Hid (z= -(v:Int))∧Hid (i=0∧v=0∨1≤i∧IntAt r (i - 1) v))
 case atStart=> exact ⟨0,0,0,by omega,rfl,rfl,by omega,by omega,rfl,Lib.hid rfl,Lib.hid (.inl ⟨rfl,rfl⟩)⟩
 case round=>
  obtain ⟨i,v,z,hig,rfl,rfl,hz0,hz1,rfl,HZ,HI⟩:=hrel
  cases gk with
  | zero=>
   obtain rfl:i=ln:=by omega
   have HF:=Lib.hid (hG.out (some z) (by
    have e0:1≤i∧IntAt r (i - 1) v:=by
     rcases HI.out with ⟨h,_⟩ | h
     ·have:=HLN.out
      omega
     ·exact h
    have e3:i - 1=r.length:=by have:=HLN.out;omega
    rw [e3]at e0
    obtain ⟨e1,e2⟩:=e0.2.over
    have e4:=HYes.out e2 (by show valF r≤_;rw [e1];have:=HZ.out;omega)
    rw [e4]
    show some (-(valF r:Int))=some z
    rw [e1,HZ.out]))
   clear HI HX
   go_wp2_with fail
   go_ret2
   exact ⟨by rw [HF.out];rfl,rfl⟩
  | succ g=>
   have hii:(i:Int) < (ln:Int):=by omega
   by_cases hi0:i=0
   ·subst hi0
    have HZ0:=Lib.hid (show v=0 from by
     rcases HI.out with ⟨_,h⟩ | ⟨h,_⟩
     ·exact h
     ·exact absurd h (by decide))
    have HN:=Lib.hid (show IntAt r 0 v from by rw [HZ0.out];exact IntAt.start r)
    clear HI
    go_wp2_with fail
    go_roundg g
    case measure=> omega
    case rel=> exact ⟨1,v,z,by omega,rfl,rfl,hz0,hz1,rfl,HZ,Lib.hid (.inr ⟨Nat.le_refl _,HN.out⟩)⟩
   ·have hI:=HI.out.resolve_left (fun h=> hi0 h.1)
    obtain ⟨hi1,hIA⟩:=hI
    have hj:i - 1 < r.length:=by have:=HLN.out;omega
    have hix:=HX.out i hi1 hj
    have hii0:¬(i:Int)=0:=by omega
    cases hd:isD r[i - 1]with
    | false=>
     have HF:=Lib.hid (hG.out none (HNo.out (hIA.not hj hd)))
     have hg:¬(48≤r[i - 1].toNat∧r[i - 1].toNat≤57):=fun h=> by rw [isD_is.2 h]at hd;cases hd
     have e1:n8 r[i - 1] < 48∨57 < n8 r[i - 1]:=by unfold n8;omega
     by_cases hm:n8 r[i - 1]=45
     ·rw [hm]at hix
      clear hd hg HI HX e1 hm hIA
      go_wp2_with fail
      all_goals go_ret2
      all_goals exact ⟨by rw [HF.out];rfl,rfl⟩
     ·clear hd hg HI HX hIA
      generalize n8 r[i - 1]=d at*
      rcases e1 with e1 | e1
      ·go_wp2_with fail
       all_goals go_ret2
       all_goals exact ⟨by rw [HF.out];rfl,rfl⟩
      ·have e2:¬d < 48:=by omega
       go_wp2_with fail
       all_goals go_ret2
       all_goals exact ⟨by rw [HF.out];rfl,rfl⟩
    | true=>
     have hg:=isD_is.1 hd
     have e1:48≤n8 r[i - 1]:=by unfold n8;omega
     have e2:n8 r[i - 1]≤57:=by unfold n8;omega
     obtain ⟨q,hq⟩:∃q,q=Int.tdiv (-9223372036854775808+(n8 r[i - 1] - 48)) 10:=⟨_,rfl⟩
     have hq2:q= -((9223372036854775808 - (n8 r[i - 1] - 48)) / 10):=by
      rw [hq,show -9223372036854775808+(n8 r[i - 1] - 48)= -(9223372036854775808 - (n8 r[i - 1] - 48))by omega,Int.neg_tdiv,Int.tdiv_eq_ediv_of_nonneg (by omega)]
     have hq3: -922337203685477580≤q:=by omega
     have hq4:q≤0:=by omega
     have hqw:wrap64 q=q:=by unfold wrap64;omega
     by_cases hb:9223372036854775808 < v*10+(r[i - 1].toNat - 48)
     ·have HF:=Lib.hid (hG.out none (HOver.out (hIA.big hj hb)))
      have hzq:z < q:=by have:=HZ.out;unfold n8 at hq2;omega
      clear hd hg HI HX hb hIA hq2
      generalize n8 r[i - 1]=d at*
      have hm:¬d=45:=by omega
      have hq':=hq.symm
      clear hq
      go_wp2_with fail
      all_goals go_ret2
      all_goals exact ⟨by rw [HF.out];rfl,rfl⟩
     ·have HN:=Lib.hid (show i+1=0∧v*10+(r[i - 1].toNat - 48)=0∨1≤i+1∧IntAt r (i+1 - 1) (v*10+(r[i - 1].toNat - 48))from .inr ⟨by omega,by
       have:=hIA.next hj hd
       rw [show i - 1+1=i+1 - 1 by omega]at this
       exact this⟩)
      have HZN:=Lib.hid (show 10*z - (n8 r[i - 1] - 48)= -((v*10+(r[i - 1].toNat - 48):Nat):Int)from by have:=HZ.out;unfold n8;omega)
      have hzb: -9223372036854775808≤10*z - (n8 r[i - 1] - 48):=by have:=HZN.out;omega
      have hzq:¬z < q:=by have:=HZ.out;unfold n8 at hq2;omega
      clear hd hg HI hb hIA hq2
      generalize n8 r[i - 1]=d at*
      have hm:¬d=45:=by omega
      have hq':=hq.symm
      have hz2: -922337203685477580≤z:=by omega
      clear hq
      go_wp2_with fail
      go_roundg g
      case measure=> omega
      case rel=> exact ⟨i+1,_,10*z - (d - 48),by omega,(by first | rfl | go_num),by go_num,hzb,by omega,rfl,HZN,HN⟩
set_option maxRecDepth 100000 in
set_option maxHeartbeats 4000000 in
theorem jt_rint (w:World) (s:List UInt8) (hl:s.length≤1000000000):Calls Tryz.prog 66 #[.string (sb s)] w fun e w'=> e= .returned (intV (intF s))∧w'=w:=by
 match s with
 | []=>
  have h1:(sb []).toList=[]:=sb_list _
  show Calls _ _ _ _ fun e w'=> e= .returned (.tuple #[.int .i64 0, .bool false])∧_
  go_enter Tryz.func66,Tryz.ntmps66
  go_wp2_with fail
  go_ret2
  exact ⟨rfl,rfl⟩
 | a::r=>
  have hst0:¬(sb (a::r)).toList=[]:=by rw [sb_list];exact List.cons_ne_nil _ _
  have hst1:(sb (a::r)).toList.isEmpty=false:=by rw [sb_list];rfl
  by_cases h1:a::r=[45,48]
  ·have HF:=Lib.hid (show intV (intF (a::r))= .tuple #[.int .i64 0, .bool false]from by rw [int_no (.inr h1)];rfl)
   have hst:((sb (a::r)).toList==[45,48])=true:=by rw [sb_list,h1];rfl
   clear h1
   generalize sb (a::r)=S at*
   go_enter Tryz.func66,Tryz.ntmps66
   go_wp2_with fail
   go_ret2
   exact ⟨by rw [HF.out];rfl,rfl⟩
  ·by_cases hn:numF (a::r)=(a::r).length
   ·by_cases ha:a=45
    ·subst ha
     rw [List.length_cons]at hl hn
     exact jt_rint_neg w r (by omega) hn h1
    ·exact jt_rint_pos w (a::r) hl hn (List.cons_ne_nil _ _) h1 (by rw [min_cons,if_neg ha])
   ·have HF:=Lib.hid (show intV (intF (a::r))= .tuple #[.int .i64 0, .bool false]from by rw [int_no (.inl hn)];rfl)
    have hst:((sb (a::r)).toList==[45,48])=false:=by rw [sb_list];exact beq_eq_false_iff_ne.2 h1
    have HNM:=Lib.hid (jt_rnumber w (a::r) hl)
    have hsz:=sb_size (a::r)
    have hni:¬(numF (a::r):Int)=((a::r).length:Int):=by omega
    clear h1 hn hl
    generalize (a::r).length=ln at*
    generalize (numF (a::r):Int)=nn at*
    generalize sb (a::r)=S at*
    go_enter Tryz.func66,Tryz.ntmps66
    go_wp2_with fail
    refine HNM.out.mono ?_
    rintro e w2 ⟨rfl,rfl⟩
    go_wp2_with fail
    go_ret2
    exact ⟨by rw [HF.out];rfl,rfl⟩
end Go.Proofs.YtmkjcleecjjchaaGreatDoor
