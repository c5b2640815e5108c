import Derived.Test.YtgmangikcfakgaaGreatDoorPA47
set_option maxRecDepth 100000
set_option maxHeartbeats 40000000
namespace Go.Proofs.YtgmangikcfakgaaGreatDoor
open Go Jt
namespace Js
theorem qj3 {w s:List UInt8} {v:V} {n:Nat} {l:List V} {r:List UInt8} (hw:0 < w.length) (hs:0 < s.length) (h:wordF w s v= .ok n l r):l.length+r.length≤s.length:=by
 unfold wordF at h
 split at h
 ·obtain ⟨_,rfl,rfl⟩:=qaz h
  rw [List.length_drop,List.length_singleton];omega
 ·cases h
theorem qm9 {K:List UInt8→Res} {kind:Int} {key:List UInt8} {c:UInt8} {s:List UInt8} {n:Nat} {l:List V} {r:List UInt8} (hK:∀n l r,K s= .ok n l r→l.length+r.length≤s.length) (h:groupF K kind key c s= .ok n l r):l.length+r.length≤s.length+1:=by
 have hb:∀ {n:Nat} {l:List V} {r:List UInt8},((K s).bind fun n l r=> .ok 1 (⟨kind,key,[],n⟩::l) r)= .ok n l r→l.length+r.length≤s.length+1:=fun h=> by
  obtain ⟨n1,l1,r1,e1,e2⟩:=bind_some h
  obtain ⟨_,rfl,rfl⟩:=qaz e2
  have:=hK _ _ _ e1
  rw [List.length_cons];omega
 have hsk:=qbk s
 unfold groupF at h
 split at h
 ·exact hb h
 next a u hau=>
  rw [hau,List.length_cons]at hsk
  split at h
  ·obtain ⟨_,rfl,rfl⟩:=qaz h
   rw [List.length_singleton];omega
  ·exact hb h
theorem ql4 {K:Bool→List UInt8→Res} {key:List UInt8} {d c:Nat} {s:List UInt8} {n:Nat} {l:List V} {r:List UInt8} (hK:∀o s n l r,K o s= .ok n l r→l.length+r.length≤s.length) (h:valW K key d c s= .ok n l r):l.length+r.length≤s.length:=by
 have hsk:=qbk s
 unfold valW at h
 split at h
 ·cases h
 next a u hau=>
  rw [hau,List.length_cons]at hsk
  have h0:0 < (a::u).length:=Nat.succ_pos _
  split at h
  ·cases h
  split at h
  ·cases h
  split at h
  ·have:=qj3 (by decide) h0 h
   rw [List.length_cons]at this
   omega
  split at h
  ·have:=qj3 (by decide) h0 h
   rw [List.length_cons]at this
   omega
  split at h
  ·have:=qj3 (by decide) h0 h
   rw [List.length_cons]at this
   omega
  split at h
  ·unfold stringF at h
   split at h
   next p hp=>
    obtain ⟨_,rfl,rfl⟩:=qaz h
    have:=(qfe (s:=a::u) (x:=p.1) (k:=p.2) hp).2.1
    rw [List.length_drop,List.length_singleton,List.length_cons];omega
   ·cases h
  split at h
  ·have:=qm9 (fun n l r e=> hK _ _ _ _ _ e) h
   omega
  split at h
  ·have:=qm9 (fun n l r e=> hK _ _ _ _ _ e) h
   omega
  ·unfold numberF at h
   split at h
   ·cases h
   ·obtain ⟨_,rfl,rfl⟩:=qaz h
    rw [List.length_drop,List.length_singleton,List.length_cons];omega
theorem q00:∀(g:Nat) (o:Bool) (d c:Nat) (ks:List (List UInt8)) (s:List UInt8) (n:Nat) (l:List V) (r:List UInt8),kids g o d c ks s= .ok n l r→l.length+r.length≤s.length:=by
 intro g
 induction g with
 | zero=>
  intro o d c ks s n l r h;cases h
 | succ g ih=>
  intro o d c ks s n l r h;rw [qc3]at h
  obtain ⟨n1,l1,r1,e1,e2⟩:=bind_some h
  have hl1:l1.length+r1.length≤s.length:=by
   unfold oneF at e1;split at e1
   ·unfold nameF at e1
    split at e1
    ·cases e1
    next p hp=>
     split at e1
     ·cases e1
     ·have hsk:=qbk s
      split at e1
      ·cases e1
      next a u hau=>
       split at e1
       ·have h3:=qbk ((skip s).drop p.2)
        rw [hau,List.length_cons,List.length_drop]at h3
        have:=ql4 (fun o s n l r e=> ih _ _ _ _ _ _ _ _ e) e1
        omega
       ·cases e1
   ·exact ql4 (fun o s n l r e=> ih _ _ _ _ _ _ _ _ e) e1
  have hsk:=qbk r1
  unfold nextF at e2;split at e2
  ·cases e2
  next a u hau=>
   rw [hau,List.length_cons]at hsk
   split at e2
   ·obtain ⟨_,rfl,rfl⟩:=qaz e2
    omega
   ·split at e2
    ·obtain ⟨n2,l2,r2,e3,e4⟩:=bind_some e2
     obtain ⟨_,rfl,rfl⟩:=qaz e4
     have:=ih _ _ _ _ _ _ _ _ e3
     rw [List.length_append];omega
    ·cases e2
theorem qvz {s:List UInt8} {n:Nat} {l:List V} {r:List UInt8} (h:parseF s= .ok n l r):l.length≤s.length:=by
 unfold parseF valF at h
 obtain ⟨n1,l1,r1,e1,e2⟩:=bind_some h
 split at e2
 ·obtain ⟨_,rfl,_⟩:=qaz e2
  have:=ql4 (fun o s n l r e=> q00 _ _ _ _ _ _ _ _ _ e) e1
  omega
 ·cases e2
end Js
namespace Jo
open Js
theorem q2a {α:Type} {l:List (List α)} {q:List α} (h:q∈l):q.length≤l.flatten.length:=by
 induction l with
 | nil=> cases h
 | cons a r ih=>
  rw [List.flatten_cons,List.length_append];rcases List.mem_cons.1 h with rfl | h
  ·omega
  ·have:=ih h
   omega
theorem qrf {bs:List UInt8} {y:Cfg} (hl:bs.length≤3000) (h:parseC bs= .ok y):y.rest.length≤5000∧(∀h∈y.hist,h.who.length≤250000∧h.rest.length≤5000)∧(y.hist.map rowH).flatten.length≤4000:=by
 unfold parseC at h
 cases hq:parseF bs with
 | err c=> rw [hq]at h;cases h
 | ok k L r=>
  rw [hq]at h
  have h:confF L= .ok y:=h
  have hf:=qvz hq
  obtain ⟨_,_,t,ht⟩:=qd7 hq
  have hr:=(qa4 L).2 ⟨t,ht⟩
  have hs:Short 12000 L:=qar (qd4 hq) (by omega)
  obtain ⟨hok,hdg,hbr,hrl⟩:=qo4 h
  have hL5:=qbc hr
  have hsum:(y.hist.map rowH).flatten.length≤4000:=by
   obtain ⟨P,hC⟩:=qlo hok hbr
   have h1:(rowC y).length=(bodyC y).length:=by rw [hC.row,(qcn hbr).2.2]
   have h2:=congrArg List.length hC.obj.eq
   rw [List.length_cons,List.flatten_append,List.length_append]at h2
   by_cases hn:y.hist=[]
   ·rw [hn]
    exact Nat.zero_le _
   ·have h3:named histK (listF (y.hist.map rowH))∈partsC y:=by
     unfold partsC;rw [if_neg hn];exact List.mem_append_right _ (List.mem_singleton.2 rfl)
    have h4:=q2a h3
    have h5:(named histK (listF (y.hist.map rowH))).length=(y.hist.map rowH).flatten.length+1:=rfl
    omega
  unfold confF at h;split at h
  next d hs2 h1 h2=>
   split at h
   ·cases h
   ·split at h
    ·cases h
    ·obtain rfl:=OutC.ok.inj h
     have nR:ofKey L rootK≠[]:=fun e=> by
      have:=(qj4 h1).2
      rw [e]at this
      exact absurd this (by rw [List.length_nil];omega)
     have ho:=qcv nR
     refine ⟨Nat.le_trans (qht _ _ _ ho) hL5,fun x hx=> ?_,hsum⟩
     unfold histF at h2;split at h2
     ·obtain rfl:=Option.some.inj h2
      cases hx
     ·unfold listO at h2
      split at h2
      next h5=>
       obtain ⟨p,hp2,he⟩:=qmc h2 x hx
       have hsk:Short 12000 (ofKey L histK):=qb4 hs _
       have hlk:(ofKey L histK).length≤L.length:=qc6 _ _
       obtain ⟨hpl,hin⟩:=qlc hp2
       have hps:Short 12000 p:=fun z hz=> hsk z (hin z hz)
       obtain ⟨b1,b2,b3⟩:=qi9 hps he
       exact ⟨by omega,by omega⟩
      next=> cases h2
  next=> cases h
end Jo
end Go.Proofs.YtgmangikcfakgaaGreatDoor
namespace Go.Proofs.YtgmangikcfakgaaGreatDoor
open Go.RowKit Sh Jt Js Jo
theorem qjw (w:World) (A:Option Addr) (n c:Nat) (bs:List UInt8) (hB:BytesAt w A n c bs) (hE:CEnv w):
  Calls Tryz.prog 3 #[.slice A n c] w fun e w'=> e= .returned (.bool true)∧Hid (Below w.heap.size w w'):=by
 have HE:=Qh (fun W (q:Below w.heap.size w W)=> hE.below q)
 have HBY:=Qh (fun W (q:Below w.heap.size w W)=> hB.below q)
 have hlen:=hB.len
 clear hB hE
 go_enter Tryz.func3,Tryz.ntmps3
 go_wp2_with fail
 refine (qzp _ (HE.out _ (Below.refl _ _))).mono ?_
 rintro e w1 ⟨rfl,HB⟩
 by_cases h3:2500 < n
 ·have hg:(2500:Int) < (n:Int):=by omega
  go_wp2_with fail;go_ret;exact ⟨rfl,HB⟩
 have hg:¬(2500:Int) < (n:Int):=by omega
 have HPM:=Qh (qg9 w1 A n c bs (HBY.out w1 HB.out) (by omega) (HE.out _ HB.out))
 have HPR:=Qh (fun W (q:Below w.heap.size w W)=> qxu W A n c bs (HBY.out W q) (by omega))
 have HPD:=Qh (fun y (h:parseC bs= .ok y)=> And.intro (qyr (by omega) h) (qrf (by omega) h))
 clear HBY HE
 go_wp2_with fail
 refine HPM.out.mono ?_
 intro e wp hp
 clear HPM
 generalize parseC bs=Y at*
 cases Y with
 | err k=>
  obtain ⟨rfl, -,KP⟩:=hp
  have hkk:((k:Int)==(k:Int))=true:=beq_self_eq_true _
  clear HPD;replace HB:=Qh (HB.out.trans ((KP.out).mono HB.out.size))
  clear KP;go_upto_region 5 with ((with_reducible refine qaf ?_ 28 (.tmp 4) (.tmp 16) ?_ wp.heap.size cz ?_ ?_ cz ?_ ?_ ?_ ?_ ?_);rfl;rfl;go_must (rfl;rfl;rfl;exact Row.at_ _ _ _ rfl rfl;exact qah;exact qau _ _ _ _ _ _ _ _ _;intro wq Rwq Kwq Ewq))
  have KX:=Qh (show Below wp.heap.size wp wq from (qaq Kwq.out).below (Nat.le_refl _) (fun _ _ h=> h))
  replace HB:=Qh (HB.out.trans ((KX.out).mono HB.out.size))
  have R4:=Rwq
  clear KX Kwq Ewq Rwq;generalize wp.heap.size=b4 at*;go_wp2_with fail;refine (HPR.out wq HB.out).mono ?_
  intro e wr hr;clear HPR;obtain ⟨rfl, -,KR⟩:=hr
  replace R4:=Qh (R4.out.below KR.out R4.out.lt)
  replace HB:=Qh (HB.out.trans ((KR.out).mono HB.out.size))
  clear KR;go_upto_region 6 with ((with_reducible refine qaf ?_ 28 (.tmp 6) (.tmp 21) ?_ wr.heap.size cz ?_ ?_ cz ?_ ?_ ?_ ?_ ?_);rfl;rfl;go_must (rfl;rfl;rfl;exact Row.at_ _ _ _ rfl rfl;exact qah;exact qau _ _ _ _ _ _ _ _ _;intro ws Rws Kws Ews))
  have KX:=Qh (show Below wr.heap.size wr ws from (qaq Kws.out).below (Nat.le_refl _) (fun _ _ h=> h))
  replace R4:=Qh (R4.out.below KX.out R4.out.lt)
  replace HB:=Qh (HB.out.trans ((KX.out).mono HB.out.size))
  have R6:=Rws
  clear KX Kws Ews Rws;generalize wr.heap.size=b6 at*;have HSA:=Qh (qsr ws ⟨[],[],[]⟩ [] [] none 0 0 none 0 0 none 0 0 none 0 none 0 none 0 ⟨GsAt.nil _ _ _,HistsAt.nil _ _ _,rfl,ValsAt.nil _ _ _⟩ ⟨GsAt.nil _ _ _,HistsAt.nil _ _ _,rfl,ValsAt.nil _ _ _⟩ (by decide) (by decide) (by decide) (fun h hm=> by cases hm))
  go_wp2_with (first
   | ((with_reducible refine qas ?_ 28 (.tmp 4) ?_ b4 0 cz #[.slice none 0 0, .slice none 0 0, .slice none 0 0] ?_ _ ?_ Tryz.underlying28 ?_ ?_ ?_ ?_);rfl;rfl;go_must (rfl;exact qan R4.out;rfl;exact qah;rfl))
   | ((with_reducible refine qas ?_ 28 (.tmp 6) ?_ b6 0 cz #[.slice none 0 0, .slice none 0 0, .slice none 0 0] ?_ _ ?_ Tryz.underlying28 ?_ ?_ ?_ ?_);rfl;rfl;go_must (rfl;exact qan R6.out;rfl;exact qah;rfl)))
  refine HSA.out.mono ?_
  rintro e wx ⟨rfl,KX⟩;replace HB:=Qh (HB.out.trans (KX.out.mono HB.out.size))
  clear KX HSA;go_wp2_with fail;go_ret;exact ⟨rfl,HB⟩
 | ok y=>
  obtain ⟨hyp,hyw⟩:=HPD.out y rfl
  obtain ⟨-,p2,p3, -, -⟩:=qg4 hyp.ok
  clear HPD hyp;obtain ⟨Q,A1,c1,A2,c2,A3,c3,rfl,KQ⟩:=hp
  have hqy:Q.length=y.hist.length:=by
   have:=congrArg List.length KQ.out.1.same
   unfold histsOf at this;rwa [List.length_map]at this
  have HYW:=Qh hyw.2.1
  have hyr:=hyw.1
  have hql:Q.length≤200:=by omega
  have HQY:=Qh hqy
  clear hyw hqy;have HIY:=Qh KQ.out.1
  have KP:=Qh KQ.out.2
  clear KQ;replace HB:=Qh (HB.out.trans ((KP.out).mono HB.out.size))
  clear KP;go_upto_region 5 with ((with_reducible refine qaf ?_ 28 (.tmp 4) (.tmp 16) ?_ wp.heap.size [.slice A1 y.ids.length c1, .slice A2 Q.length c2, .slice A3 y.rest.length c3] ?_ ?_ cz ?_ ?_ ?_ ?_ ?_);rfl;rfl;go_must (rfl;rfl;rfl;exact Row.at_ _ _ _ rfl rfl;exact qah;exact qau _ _ _ _ _ _ _ _ _;intro wq Rwq Kwq Ewq))
  have KX:=Qh (show Below wp.heap.size wp wq from (qaq Kwq.out).below (Nat.le_refl _) (fun _ _ h=> h))
  replace HIY:=Qh (HIY.out.below KX.out)
  replace HB:=Qh (HB.out.trans ((KX.out).mono HB.out.size))
  have R4:=Rwq
  clear KX Kwq Ewq Rwq;generalize wp.heap.size=b4 at*;go_wp2_with fail;refine (HPR.out wq HB.out).mono ?_
  intro e wr hr;clear HPR;obtain ⟨Q2,E1,d1,E2,d2,E3,d3,rfl,KQ⟩:=hr
  have hq2:Q2.length=Q.length:=by
   have:=congrArg List.length KQ.out.1.same
   unfold histsOf at this;rw [List.length_map]at this
   exact this.trans HQY.out.symm
  have HIZ:=Qh KQ.out.1
  have KR:=Qh KQ.out.2
  rw [hq2]at HIZ ⊢
  clear KQ hq2;replace HIY:=Qh (HIY.out.below KR.out)
  replace R4:=Qh (R4.out.below KR.out R4.out.lt)
  replace HB:=Qh (HB.out.trans ((KR.out).mono HB.out.size))
  clear KR;go_upto_region 6 with ((with_reducible refine qaf ?_ 28 (.tmp 6) (.tmp 21) ?_ wr.heap.size [.slice E1 y.ids.length d1, .slice E2 Q.length d2, .slice E3 y.rest.length d3] ?_ ?_ cz ?_ ?_ ?_ ?_ ?_);rfl;rfl;go_must (rfl;rfl;rfl;exact Row.at_ _ _ _ rfl rfl;exact qah;exact qau _ _ _ _ _ _ _ _ _;intro ws Rws Kws Ews))
  have KX:=Qh (show Below wr.heap.size wr ws from (qaq Kws.out).below (Nat.le_refl _) (fun _ _ h=> h))
  replace HIY:=Qh (HIY.out.below KX.out)
  replace R4:=Qh (R4.out.below KX.out R4.out.lt)
  replace HIZ:=Qh (HIZ.out.below KX.out)
  replace HB:=Qh (HB.out.trans ((KX.out).mono HB.out.size))
  have R6:=Rws
  clear KX Kws Ews Rws;generalize wr.heap.size=b6 at*;have HSA:=Qh (qsr ws y Q Q2 A1 y.ids.length c1 A2 Q.length c2 A3 y.rest.length c3 E1 d1 E2 d2 E3 d3 HIY.out HIZ.out (by omega) (by omega) (by omega) (fun h hm=> Nat.le_trans (HYW.out h hm).2 (by decide)))
  clear HIY HIZ HYW;go_wp2_with (first
   | ((with_reducible refine qas ?_ 28 (.tmp 4) ?_ b4 0 [.slice A1 y.ids.length c1, .slice A2 Q.length c2, .slice A3 y.rest.length c3] #[.slice A1 y.ids.length c1, .slice A2 Q.length c2, .slice A3 y.rest.length c3] ?_ _ ?_ Tryz.underlying28 ?_ ?_ ?_ ?_);rfl;rfl;go_must (rfl;exact qan R4.out;rfl;exact qah;rfl))
   | ((with_reducible refine qas ?_ 28 (.tmp 6) ?_ b6 0 [.slice E1 y.ids.length d1, .slice E2 Q.length d2, .slice E3 y.rest.length d3] #[.slice E1 y.ids.length d1, .slice E2 Q.length d2, .slice E3 y.rest.length d3] ?_ _ ?_ Tryz.underlying28 ?_ ?_ ?_ ?_);rfl;rfl;go_must (rfl;exact qan R6.out;rfl;exact qah;rfl)))
  refine HSA.out.mono ?_
  rintro e wx ⟨rfl,KX⟩;replace HB:=Qh (HB.out.trans (KX.out.mono HB.out.size))
  clear KX HSA;go_wp2_with fail;go_ret;exact ⟨rfl,HB⟩
end Go.Proofs.YtgmangikcfakgaaGreatDoor
