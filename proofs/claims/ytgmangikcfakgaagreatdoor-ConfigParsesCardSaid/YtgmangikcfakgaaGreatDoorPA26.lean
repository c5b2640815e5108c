import Derived.Test.YtgmangikcfakgaaGreatDoorPA13
import Derived.Test.YtgmangikcfakgaaGreatDoorPA11
import Derived.Deep.CutRange
set_option maxRecDepth 100000
set_option maxHeartbeats 40000000
namespace Go.Proofs.YtgmangikcfakgaaGreatDoor
open Go.RowKit Sh
namespace Jt
theorem q2m (s:List UInt8) (i:Nat) (h:i < s.length):fracF (s.drop i)=if s[i]=46∧digF (s.drop (i+1))≠0 then 1+digF (s.drop (i+1)) else 0:=by
 rw [at_of s h,fracF]
theorem q26 (s:List UInt8) (i:Nat) (h:i < s.length):expF (s.drop i)=if (s[i]=101∨s[i]=69)∧digF (s.drop (i+1+signF (s.drop (i+1))))≠0 then 1+signF (s.drop (i+1))+digF (s.drop (i+1+signF (s.drop (i+1)))) else 0:=by
 rw [at_of s h,expF,List.drop_drop]
theorem qsl (s:List UInt8) (i:Nat) (h:i < s.length):signF (s.drop i)=if s[i]=43∨s[i]=45 then 1 else 0:=by
 rw [at_of s h,signF]
theorem qe3 (s:List UInt8) (i:Nat) (h:¬i < s.length):s.drop i=[]:=List.drop_eq_nil_of_le (by omega)
theorem q3a {s:List UInt8} {i:Nat} (h:i < s.length) (hd:isD s[i]=true):digF (s.drop i)=digF (s.drop (i+1))+1:=by
 rw [at_of s h,qlt hd]
theorem q07 {s:List UInt8} {i:Nat} (h:i < s.length) (hd:isD s[i]=false):digF (s.drop i)=0:=by
 rw [at_of s h,qf7 hd]
end Jt
open Jt
theorem qsz (w:World) (s:List UInt8) (hl:s.length≤1000000000) (i:Nat) (hi:i≤s.length):Calls Tryz.prog 141 #[.string (sb s), .int .i64 (i:Int)] w fun e w'=> e= .returned (.int .i64 (digF (s.drop i):Nat))∧w'=w:=by
 have HX:=Qh (fun (j:Nat) (hj:j < s.length) W=> qam s j hj W)
 have hsz:=qag s
 generalize hS:sb s=S at*
 clear hS
 go_enter Tryz.func141,Tryz.ntmps141
 go_wp2_with fail
 go_loopg [5] s.length (fun g vk wx=> ∃k:Nat,k+g=s.length+i∧i≤k∧k≤s.length∧vk= .int .i64 (k:Int)∧wx=w∧Hid (digF (s.drop i)=k - i+digF (s.drop k)))
 case atStart=> exact ⟨i,by omega,Nat.le_refl _,hi,rfl,rfl,Qh (by omega)⟩
 case round=>
  obtain ⟨k,hkg,hik,hkl,rfl,rfl,HH⟩:=hrel
  by_cases hlt:k < s.length
  ·have hix:=HX.out k hlt
   have hki:(k:Int) < (s.length:Int):=by omega
   have hH:=HH.out
   cases hd:isD s[k]with
   | true=>
    have h48:=qdt.1 hd
    rw [q3a hlt hd]at hH
    have HN:=Qh (show digF (s.drop i)=k+1 - i+digF (s.drop (k+1))from by omega)
    have e1:48≤n8 s[k]:=by unfold n8;omega
    have e2:n8 s[k]≤57:=by unfold n8;omega
    clear hH HH hd h48;generalize n8 s[k]=d at*;go_wp2_with fail;go_roundg (gk - 1)
    case measure=> omega
    case rel=> exact ⟨k+1,by omega,by omega,by omega,by go_num,rfl,HN⟩
   | false=>
    have h48:¬(48≤s[k].toNat∧s[k].toNat≤57):=fun h=> by rw [qdt.2 h]at hd;cases hd
    rw [q07 hlt hd]at hH
    have HN:=Qh (show (k:Int) - (i:Int)=(digF (s.drop i):Nat)from by omega)
    have e1:n8 s[k] < 48∨57 < n8 s[k]:=by unfold n8;omega
    clear hH HH hd h48;generalize n8 s[k]=d at*;rcases e1 with e1 | e1
    ·go_wp2_with fail
     go_ret;exact ⟨by rw [←HN.out];rfl,rfl⟩
    ·have e2:48≤d:=by omega
     go_wp2_with fail;go_ret;exact ⟨by rw [←HN.out];rfl,rfl⟩
  ·have hki:¬(k:Int) < (s.length:Int):=by omega
   have HN:=Qh (show (k:Int) - (i:Int)=(digF (s.drop i):Nat)from by
    have hH:=HH.out
    rw [qe3 s k hlt]at hH
    have:digF []=0:=rfl
    omega)
   clear HH hlt;go_wp2_with fail;go_ret;exact ⟨by rw [←HN.out];rfl,rfl⟩
theorem qen (w:World) (s:List UInt8) (hl:s.length≤1000000000):Calls Tryz.prog 104 #[.string (sb s)] w fun e w'=> e= .returned (.int .i64 (numF s:Nat))∧w'=w:=by
 have HD:=Qh (fun (i:Nat) (hi:i≤s.length)=> qsz w s hl i hi)
 have HX:=Qh (fun (j:Nat) (hj:j < s.length) W=> qam s j hj W)
 have hsz:=qag s
 have hml:=q24 s
 have HT:=Qh (show (s=[]∧(sb s).toList=[]∧minF s=0)∨(∃h:0 < s.length,¬(sb s).toList=[]∧(sb s).toList.isEmpty=false∧minF s=if s[0]=45 then 1 else 0)from by
  match s with
  | []=> exact .inl ⟨rfl,qab _,rfl⟩
  | a::r=> exact .inr ⟨by simp,by rw [qab];exact List.cons_ne_nil _ _,by rw [qab];rfl,rfl⟩)
 generalize hS:sb s=S at*
 clear hS
 go_enter Tryz.func104,Tryz.ntmps104
 apply wp_seq_k
 intro K0 hK0
 have HK0:=Qh hK0
 clear hK0
 go_wp2_with fail
 refine HK0.out _ _ ?_
 clear HK0 K0
 apply wp_seq_k
 intro K1 hK1
 have HK1:=Qh hK1
 clear hK1
 go_wp2_with fail
 refine HK1.out _ _ ?_
 clear HK1 K1
 apply wp_seq_k
 intro K2 hK2
 have HK2:=Qh hK2
 clear hK2
 go_cut [3]from 6 to 94 (fun vk wx=> vk= .int .i64 (minF s:Int)∧wx=w)
 case first=>
  rcases HT.out with ⟨_,h1,hm⟩ | ⟨h0,h1,h2,hm⟩
  ·have HM:=Qh hm
   clear hm HT;go_wp2_with fail;go_meet
   case rel=> exact ⟨by rw [HM.out];rfl,rfl⟩
  ·have hix:=HX.out 0 h0
   change ∀W,(Instr.index 9 (.string S) (.int .i64 0)).run Tryz.prog W=_ at hix
   by_cases ha:s[0]=45
   ·rw [if_pos ha]at hm
    rw [ha]at hix
    have hix:∀W,(Instr.index 9 (.string S) (.int .i64 0)).run Tryz.prog W= .ok (.int .u8 45) W:=hix
    have HM:=Qh hm
    clear hm HT;go_wp2_with fail;go_meet
    case rel=> exact ⟨by rw [HM.out];rfl,rfl⟩
   ·rw [if_neg ha]at hm
    have hd:¬n8 s[0]=45:=fun e=> ha (n8_is (c:=45) e)
    have HM:=Qh hm
    clear hm HT ha;generalize n8 s[0]=d at*;go_wp2_with fail;go_meet
    case rel=> exact ⟨by rw [HM.out];rfl,rfl⟩
 case rest=>
  obtain ⟨rfl,rfl⟩:=hcut
  refine HK2.out _ _ ?_
  clear HK2 K2 HT;have HDm:=Qh (HD.out _ hml)
  by_cases h0:digF (s.drop (minF s))=0
  ·have HN:=Qh (qpg h0)
   rw [h0]at HDm
   clear HD HX h0;generalize (minF s:Int)=mn at*;go_wp2_with fail;refine HDm.out.mono ?_
   rintro e w2 ⟨rfl,rfl⟩;go_wp2_with fail;go_ret;exact ⟨by rw [HN.out];rfl,rfl⟩
  ·obtain ⟨r,hr⟩:∃r,r=s.drop (minF s):=⟨_,rfl⟩
   obtain ⟨t,ht⟩:∃t,t=r.drop (wholeF r):=⟨_,rfl⟩
   obtain ⟨u,hu⟩:∃u,u=t.drop (fracF t):=⟨_,rfl⟩
   rw [←hr]at h0 HDm
   have hposF:posF r=wholeF r+fracF t+expF u:=by
    have hwh:wholeF r≠0:=by
     unfold wholeF;rw [if_neg h0];split <;> omega
    rw [posF,if_neg hwh,←ht,←List.drop_drop,←ht,←hu]
   have hwpos:1≤wholeF r:=by
    unfold wholeF;rw [if_neg h0];split <;> omega
   have HN:=Qh (show numF s=minF s+wholeF r+fracF t+expF u from by
    rw [numF,←hr,hposF,if_neg (by omega)];omega)
   have hrl:r.length=s.length - minF s:=by rw [hr,List.length_drop]
   have hw2:=Nat.le_trans (qdw r) (qb5 r)
   have hwi:=qok h0
   obtain ⟨mn,hmn⟩:∃mn,mn=minF s:=⟨_,rfl⟩
   rw [←hmn]at hr HN HDm hml hrl ⊢
   have hml2:mn < s.length:=by
    have:0 < r.length:=by
     have:=qb5 r
     omega
    omega
   have hixm:=HX.out mn hml2
   have hhd:[48].isPrefixOf r=true↔s[mn]=48:=by
    rw [pre1,hr,at_of s hml2,List.head?_cons,Option.some.injEq]
   obtain ⟨kw,hkw⟩:∃kw,kw=mn+wholeF r:=⟨_,rfl⟩
   have ht2:t=s.drop kw:=by rw [ht,hkw,←List.drop_drop,←hr]
   have hkwl:kw≤s.length:=by omega
   obtain ⟨kf,hkf⟩:∃kf,kf=kw+fracF t:=⟨_,rfl⟩
   have hu2:u=s.drop kf:=by rw [hu,hkf,←List.drop_drop,←ht2]
   have hkfl:kf≤s.length:=by
    have:=qfi t
    rw [ht2,List.length_drop]at this
    rw [ht2]at hkf
    omega
   have HN2:=Qh (show numF s=kf+expF u from by rw [HN.out];omega)
   have hdi:¬(digF r:Int)=0:=by omega
   have hkwi:(mn:Int)+(wholeF r:Int)=(kw:Int):=by omega
   have HKF:=Qh hkf
   have hkw1:(kw:Int)≤1000000000:=by omega
   have hkf1:(kf:Int)≤1000000000:=by omega
   clear HN hposF hr ht hu hkf hkw h0 hmn hrl hw2 hml;apply wp_seq_k
   intro K3 hK3;have HK3:=Qh hK3
   clear hK3;go_wp2_with fail;refine HDm.out.mono ?_
   rintro e w2 ⟨rfl,rfl⟩;clear HDm;go_wp2_with fail;refine HK3.out _ _ ?_
   clear HK3 K3;apply wp_seq_k
   intro K4 hK4;have HK4:=Qh hK4
   clear hK4;go_wp2_with fail;refine HK4.out _ _ ?_
   clear HK4 K4;apply wp_seq_k
   intro K5 hK5;have HK5:=Qh hK5
   clear hK5;go_cut [4]from 6 to 94 (fun vn wx=> vn= .int .i64 (wholeF r:Int)∧wx=w2)
   case first=>
    have hki:(mn:Int) < (s.length:Int):=by omega
    by_cases hp:[48].isPrefixOf r=true
    ·rw [if_pos hp]at hwi
     rw [hhd.1 hp]at hixm
     have hixm:∀W,(Instr.index 9 (.string S) (.int .i64 (mn:Int))).run Tryz.prog W= .ok (.int .u8 48) W:=hixm
     have HW:=Qh hwi
     clear hwi hhd hp ht2 hu2 HN2 hkwi hdi;go_wp2_with fail;go_meet
     case rel=> exact ⟨by rw [HW.out];rfl,rfl⟩
    ·rw [if_neg hp]at hwi
     have hd:¬n8 s[mn]=48:=fun e=> hp (hhd.2 (n8_is (c:=48) e))
     have HW:=Qh hwi
     clear hwi hhd hp ht2 hu2 HN2 hkwi hdi;generalize n8 s[mn]=d at*;go_wp2_with fail;go_meet
     case rel=> exact ⟨by rw [HW.out],rfl⟩
   case rest=>
    obtain ⟨rfl,rfl⟩:=hcut
    refine HK5.out _ _ ?_
    clear HK5 K5 hixm hhd hwi hwpos hdi;apply wp_seq_k
    intro K6 hK6;have HK6:=Qh hK6
    clear hK6;generalize (wholeF r:Int)=wr2 at*;go_wp2_with fail;refine HK6.out _ _ ?_
    clear HK6 K6;apply wp_seq_k
    intro K7 hK7;have HK7:=Qh hK7
    clear hK7;go_cut [3]from 6 to 94 (fun vk wx=> vk= .int .i64 (kf:Int)∧wx=wc)
    case first=>
     by_cases hlt:kw < s.length
     ·have hix:=HX.out kw hlt
      have hfr:=q2m s kw hlt
      rw [←ht2]at hfr
      have hki:(kw:Int) < (s.length:Int):=by omega
      by_cases hc:s[kw]=46
      ·rw [hc]at hix
       have hix:∀W,(Instr.index 9 (.string S) (.int .i64 (kw:Int))).run Tryz.prog W= .ok (.int .u8 46) W:=hix
       obtain ⟨k1,hk1⟩:∃k1,k1=kw+1:=⟨_,rfl⟩
       have hk1i:(kw:Int)+1=(k1:Int):=by omega
       have HDk:=Qh (HD.out k1 (by omega))
       rw [←hk1]at hfr
       have hdl:=qb5 (s.drop k1)
       rw [List.length_drop]at hdl
       by_cases hd:digF (s.drop k1)=0
       ·have HE:=Qh (show kf=kw from by rw [HKF.out,hfr,if_neg (fun h=> h.2 hd)];rfl)
        rw [hd]at HDk
        have hk1b:(k1:Int)≤1000000001:=by omega
        clear hfr hd hdl hc HX HD ht2 hu2 HN2 hkwi hk1;go_wp2_with fail;refine HDk.out.mono ?_
        rintro e w3 ⟨rfl,rfl⟩;go_wp2_with fail;go_meet
        case rel=> exact ⟨by rw [HE.out],rfl⟩
       ·have HE:=Qh (show (kf:Int)=(k1:Int)+(digF (s.drop k1):Nat)from by
         rw [HKF.out,hfr,if_pos ⟨hc,hd⟩];omega)
        have hd1:0 < (digF (s.drop k1):Int):=by omega
        have hd2:(digF (s.drop k1):Int)≤1000000000:=by omega
        have hk1b:(k1:Int)≤1000000001:=by omega
        clear hfr hd hdl hc HX HD ht2 hu2 HN2 hkwi hk1;generalize (digF (s.drop k1):Int)=dd at*;go_wp2_with fail;refine HDk.out.mono ?_
        rintro e w3 ⟨rfl,rfl⟩;go_wp2_with fail;refine HDk.out.mono ?_
        rintro e w3 ⟨rfl,rfl⟩;go_wp2_with fail;go_meet
        case rel=> exact ⟨by rw [HE.out],rfl⟩
      ·have HE:=Qh (show kf=kw from by rw [HKF.out,hfr,if_neg (fun h=> hc h.1)];rfl)
       have hd:¬n8 s[kw]=46:=fun e=> hc (n8_is (c:=46) e)
       clear hfr hc HX HD ht2 hu2 HN2 hkwi;generalize n8 s[kw]=d at*;go_wp2_with fail;go_meet
       case rel=> exact ⟨by rw [HE.out],rfl⟩
     ·have HE:=Qh (show kf=kw from by
       rw [HKF.out,ht2,qe3 s kw hlt];rfl)
      have hki:¬(kw:Int) < (s.length:Int):=by omega
      clear hlt HX HD ht2 hu2 HN2 hkwi;go_wp2_with fail;go_meet
      case rel=> exact ⟨by rw [HE.out],rfl⟩
    case rest=>
     obtain ⟨rfl,rfl⟩:=hcut
     refine HK7.out _ _ ?_
     clear HK7 K7 ht2 hkwi hkwl HKF;apply wp_seq_k
     intro K8 hK8;have HK8:=Qh hK8
     clear hK8;go_cut [3]from 6 to 94 (fun vk wx=> vk= .int .i64 (numF s:Int)∧wx=wc)
     case first=>
      by_cases hlt:kf < s.length
      ·have hix:=HX.out kf hlt
       have hfr:=q26 s kf hlt
       rw [←hu2]at hfr
       have hki:(kf:Int) < (s.length:Int):=by omega
       by_cases hc:s[kf]=101
       ·rw [hc]at hix
        have hix:∀W,(Instr.index 9 (.string S) (.int .i64 (kf:Int))).run Tryz.prog W= .ok (.int .u8 101) W:=hix
        have hce:s[kf]=101∨s[kf]=69:= .inl hc
        obtain ⟨k1,hk1⟩:∃k1,k1=kf+1:=⟨_,rfl⟩
        obtain ⟨sg,hsg⟩:∃sg,sg=signF (s.drop k1):=⟨_,rfl⟩
        obtain ⟨mm,hmm⟩:∃mm,mm=k1+sg:=⟨_,rfl⟩
        have hk1i:(kf:Int)+1=(k1:Int):=by omega
        have hk1b:(k1:Int)≤1000000001:=by omega
        have hk1l:k1≤s.length:=by omega
        have hmml:mm≤s.length:=by
         have:=qfb (s.drop k1)
         rw [←hsg,List.length_drop]at this
         omega
        rw [←hk1,←hsg,←hmm]at hfr
        have HXP:=Qh hfr
        have HMM:=Qh (show mm=k1+sg∧k1=kf+1 from ⟨hmm,hk1⟩)
        have HSG:=Qh hsg
        clear hfr hmm hsg hk1 hu2 hc;go_upto_region 13 with fail;rename_i K9 hK9
        have HK9:=Qh hK9
        clear hK9;go_wp2_with fail;refine HK9.out _ _ ?_
        clear HK9 K9;apply wp_seq_k
        intro K10 hK10;have HK10:=Qh hK10
        clear hK10;go_cut [5]from 6 to 94 (fun vm wx=> vm= .int .i64 (mm:Int)∧wx=wc)
        case first=>
         clear HD;by_cases hl2:k1 < s.length
         ·have hix2:=HX.out k1 hl2
          have hsi:=qsl s k1 hl2
          have hki2:(k1:Int) < (s.length:Int):=by omega
          by_cases hs43:s[k1]=43
          ·have HE:=Qh (show (mm:Int)=(k1:Int)+1 from by
            have e:sg=1:=by rw [HSG.out,hsi,if_pos (.inl hs43)]
            have:=HMM.out
            omega)
           rw [hs43]at hix2
           have hix2:∀W,(Instr.index 9 (.string S) (.int .i64 (k1:Int))).run Tryz.prog W= .ok (.int .u8 43) W:=hix2
           clear hsi hs43 HX;go_wp2_with fail;go_meet
           case rel=> exact ⟨by rw [HE.out],rfl⟩
          by_cases hs45:s[k1]=45
          ·have HE:=Qh (show (mm:Int)=(k1:Int)+1 from by
            have e:sg=1:=by rw [HSG.out,hsi,if_pos (.inr hs45)]
            have:=HMM.out
            omega)
           rw [hs45]at hix2
           have hix2:∀W,(Instr.index 9 (.string S) (.int .i64 (k1:Int))).run Tryz.prog W= .ok (.int .u8 45) W:=hix2
           clear hsi hs45 hs43 HX;go_wp2_with fail;go_meet
           case rel=> exact ⟨by rw [HE.out],rfl⟩
          ·have HE:=Qh (show mm=k1 from by
            have e:sg=0:=by rw [HSG.out,hsi,if_neg (fun h=> h.elim hs43 hs45)]
            have:=HMM.out
            omega)
           have hd43:¬n8 s[k1]=43:=fun e=> hs43 (n8_is (c:=43) e)
           have hd45:¬n8 s[k1]=45:=fun e=> hs45 (n8_is (c:=45) e)
           clear hsi hs45 hs43 HX;generalize n8 s[k1]=d2 at*;have hb43:(d2==43)=false:=beq_eq_false_iff_ne.2 hd43
           have hb45:(d2==45)=false:=beq_eq_false_iff_ne.2 hd45
           go_wp2_with fail;go_meet
           case rel=> exact ⟨by rw [HE.out],rfl⟩
         ·have HE:=Qh (show mm=k1 from by
           have e:sg=0:=by rw [HSG.out,qe3 s k1 hl2];rfl
           have:=HMM.out
           omega)
          have hki2:¬(k1:Int) < (s.length:Int):=by omega
          clear hl2 HX;go_wp2_with fail;go_meet
          case rel=> exact ⟨by rw [HE.out],rfl⟩
        case rest=>
         obtain ⟨rfl,rfl⟩:=hcut
         refine HK10.out _ _ ?_
         clear HK10 K10;have HDm:=Qh (HD.out mm hmml)
         have hdl:=qb5 (s.drop mm)
         rw [List.length_drop]at hdl
         have hmmb:(mm:Int)≤1000000002:=by omega
         by_cases hd:digF (s.drop mm)=0
         ·have HE:=Qh (show numF s=kf from by rw [HN2.out,HXP.out,if_neg (fun h=> h.2 hd)];rfl)
          rw [hd]at HDm
          clear hd hdl HX HD HN2;go_wp2_with fail;refine HDm.out.mono ?_
          rintro e w3 ⟨rfl,rfl⟩;go_wp2_with fail;go_meet
          case rel=> exact ⟨by rw [HE.out],rfl⟩
         ·have HE:=Qh (show (numF s:Int)=(mm:Int)+(digF (s.drop mm):Nat)from by
           have e1:=HXP.out
           rw [if_pos ⟨hce,hd⟩]at e1
           have:=HN2.out
           have:=HMM.out
           omega)
          have hd1:0 < (digF (s.drop mm):Int):=by omega
          have hd2:(digF (s.drop mm):Int)≤1000000000:=by omega
          clear hd hdl HX HD HN2;generalize (digF (s.drop mm):Int)=dd at*;go_wp2_with fail;refine HDm.out.mono ?_
          rintro e w3 ⟨rfl,rfl⟩;go_wp2_with fail;refine HDm.out.mono ?_
          rintro e w3 ⟨rfl,rfl⟩;go_wp2_with fail;go_meet
          case rel=> exact ⟨by rw [HE.out],rfl⟩
       by_cases hc69:s[kf]=69
       ·rw [hc69]at hix
        have hix:∀W,(Instr.index 9 (.string S) (.int .i64 (kf:Int))).run Tryz.prog W= .ok (.int .u8 69) W:=hix
        have hce:s[kf]=101∨s[kf]=69:= .inr hc69
        obtain ⟨k1,hk1⟩:∃k1,k1=kf+1:=⟨_,rfl⟩
        obtain ⟨sg,hsg⟩:∃sg,sg=signF (s.drop k1):=⟨_,rfl⟩
        obtain ⟨mm,hmm⟩:∃mm,mm=k1+sg:=⟨_,rfl⟩
        have hk1i:(kf:Int)+1=(k1:Int):=by omega
        have hk1b:(k1:Int)≤1000000001:=by omega
        have hk1l:k1≤s.length:=by omega
        have hmml:mm≤s.length:=by
         have:=qfb (s.drop k1)
         rw [←hsg,List.length_drop]at this
         omega
        rw [←hk1,←hsg,←hmm]at hfr
        have HXP:=Qh hfr
        have HMM:=Qh (show mm=k1+sg∧k1=kf+1 from ⟨hmm,hk1⟩)
        have HSG:=Qh hsg
        clear hfr hmm hsg hk1 hu2 hc hc69;go_upto_region 13 with fail;rename_i K9 hK9
        have HK9:=Qh hK9
        clear hK9;go_wp2_with fail;refine HK9.out _ _ ?_
        clear HK9 K9;apply wp_seq_k
        intro K10 hK10;have HK10:=Qh hK10
        clear hK10;go_cut [5]from 6 to 94 (fun vm wx=> vm= .int .i64 (mm:Int)∧wx=wc)
        case first=>
         clear HD;by_cases hl2:k1 < s.length
         ·have hix2:=HX.out k1 hl2
          have hsi:=qsl s k1 hl2
          have hki2:(k1:Int) < (s.length:Int):=by omega
          by_cases hs43:s[k1]=43
          ·have HE:=Qh (show (mm:Int)=(k1:Int)+1 from by
            have e:sg=1:=by rw [HSG.out,hsi,if_pos (.inl hs43)]
            have:=HMM.out
            omega)
           rw [hs43]at hix2
           have hix2:∀W,(Instr.index 9 (.string S) (.int .i64 (k1:Int))).run Tryz.prog W= .ok (.int .u8 43) W:=hix2
           clear hsi hs43 HX;go_wp2_with fail;go_meet
           case rel=> exact ⟨by rw [HE.out],rfl⟩
          by_cases hs45:s[k1]=45
          ·have HE:=Qh (show (mm:Int)=(k1:Int)+1 from by
            have e:sg=1:=by rw [HSG.out,hsi,if_pos (.inr hs45)]
            have:=HMM.out
            omega)
           rw [hs45]at hix2
           have hix2:∀W,(Instr.index 9 (.string S) (.int .i64 (k1:Int))).run Tryz.prog W= .ok (.int .u8 45) W:=hix2
           clear hsi hs45 hs43 HX;go_wp2_with fail;go_meet
           case rel=> exact ⟨by rw [HE.out],rfl⟩
          ·have HE:=Qh (show mm=k1 from by
            have e:sg=0:=by rw [HSG.out,hsi,if_neg (fun h=> h.elim hs43 hs45)]
            have:=HMM.out
            omega)
           have hd43:¬n8 s[k1]=43:=fun e=> hs43 (n8_is (c:=43) e)
           have hd45:¬n8 s[k1]=45:=fun e=> hs45 (n8_is (c:=45) e)
           clear hsi hs45 hs43 HX;generalize n8 s[k1]=d2 at*;have hb43:(d2==43)=false:=beq_eq_false_iff_ne.2 hd43
           have hb45:(d2==45)=false:=beq_eq_false_iff_ne.2 hd45
           go_wp2_with fail;go_meet
           case rel=> exact ⟨by rw [HE.out],rfl⟩
         ·have HE:=Qh (show mm=k1 from by
           have e:sg=0:=by rw [HSG.out,qe3 s k1 hl2];rfl
           have:=HMM.out
           omega)
          have hki2:¬(k1:Int) < (s.length:Int):=by omega
          clear hl2 HX;go_wp2_with fail;go_meet
          case rel=> exact ⟨by rw [HE.out],rfl⟩
        case rest=>
         obtain ⟨rfl,rfl⟩:=hcut
         refine HK10.out _ _ ?_
         clear HK10 K10;have HDm:=Qh (HD.out mm hmml)
         have hdl:=qb5 (s.drop mm)
         rw [List.length_drop]at hdl
         have hmmb:(mm:Int)≤1000000002:=by omega
         by_cases hd:digF (s.drop mm)=0
         ·have HE:=Qh (show numF s=kf from by rw [HN2.out,HXP.out,if_neg (fun h=> h.2 hd)];rfl)
          rw [hd]at HDm
          clear hd hdl HX HD HN2;go_wp2_with fail;refine HDm.out.mono ?_
          rintro e w3 ⟨rfl,rfl⟩;go_wp2_with fail;go_meet
          case rel=> exact ⟨by rw [HE.out],rfl⟩
         ·have HE:=Qh (show (numF s:Int)=(mm:Int)+(digF (s.drop mm):Nat)from by
           have e1:=HXP.out
           rw [if_pos ⟨hce,hd⟩]at e1
           have:=HN2.out
           have:=HMM.out
           omega)
          have hd1:0 < (digF (s.drop mm):Int):=by omega
          have hd2:(digF (s.drop mm):Int)≤1000000000:=by omega
          clear hd hdl HX HD HN2;generalize (digF (s.drop mm):Int)=dd at*;go_wp2_with fail;refine HDm.out.mono ?_
          rintro e w3 ⟨rfl,rfl⟩;go_wp2_with fail;refine HDm.out.mono ?_
          rintro e w3 ⟨rfl,rfl⟩;go_wp2_with fail;go_meet
          case rel=> exact ⟨by rw [HE.out],rfl⟩
       ·have HE:=Qh (show numF s=kf from by rw [HN2.out,hfr,if_neg (fun h=> h.1.elim hc hc69)];rfl)
        have hd1:¬n8 s[kf]=101:=fun e=> hc (n8_is (c:=101) e)
        have hd2:¬n8 s[kf]=69:=fun e=> hc69 (n8_is (c:=69) e)
        clear hfr hc hc69 HX HD hu2 HN2;generalize n8 s[kf]=d at*;have hb1:(d==101)=false:=beq_eq_false_iff_ne.2 hd1
        have hb2:(d==69)=false:=beq_eq_false_iff_ne.2 hd2
        go_wp2_with fail;go_meet
        case rel=> exact ⟨by rw [HE.out],rfl⟩
      ·have HE:=Qh (show numF s=kf from by
        rw [HN2.out,hu2,qe3 s kf hlt];rfl)
       have hki:¬(kf:Int) < (s.length:Int):=by omega
       clear hlt HX HD hu2 HN2;go_wp2_with fail;go_meet
       case rel=> exact ⟨by rw [HE.out],rfl⟩
     case rest=>
      obtain ⟨rfl,rfl⟩:=hcut
      refine HK8.out _ _ ?_
      clear HK8 K8;go_wp2_with fail;go_ret;exact ⟨rfl,rfl⟩
end Go.Proofs.YtgmangikcfakgaaGreatDoor
