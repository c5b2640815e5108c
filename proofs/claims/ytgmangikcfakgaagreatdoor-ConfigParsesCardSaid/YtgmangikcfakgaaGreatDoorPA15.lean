import Derived.Test.YtgmangikcfakgaaGreatDoorPA14
import Derived.Maps.OwnSet
import Derived.StillTailTactics
import Derived.Deep.RegionHeld3
set_option maxRecDepth 100000
set_option maxHeartbeats 40000000
namespace Go.Proofs.YtgmangikcfakgaaGreatDoor
open Go.RowKit Sh Jt Js
structure StG (w w':World) (b lo hi:Nat) (v v':Value):Prop where
 kept:Kept w w' (fun k=> k=b∨v.ownBlock=some k∨(lo≤k∧k < hi))
 fresh:∀k,v'.ownBlock=some k→v.ownBlock=some k∨w.heap.size≤k
theorem StG.refl (w:World) (b lo hi:Nat) (v:Value):StG w w b lo hi v v:=⟨Kept.refl _ _,fun _ h=> .inl h⟩
theorem Stp.stg {w w':World} {b:Nat} {v v':Value} (h:Stp w w' b v v') (lo hi:Nat):StG w w' b lo hi v v':=
 ⟨h.kept.mono fun k _ hk=> by
  rcases hk with hk | hk
  ·exact .inl hk
  ·exact .inr (.inl hk),h.fresh⟩
theorem StG.trans {w w1 w2:World} {b lo hi:Nat} {v v1 v2:Value} (h:StG w w1 b lo hi v v1) (k:StG w1 w2 b lo hi v1 v2):StG w w2 b lo hi v v2:=by
 refine ⟨⟨k.kept.os.trans h.kept.os,k.kept.tape.trans h.kept.tape,k.kept.output.trans h.kept.output,Nat.le_trans h.kept.size k.kept.size,fun i hi hn=> ?_⟩,fun i hi=> ?_⟩
 ·refine (k.kept.block i (Nat.lt_of_lt_of_le hi h.kept.size) (fun hh=> ?_)).trans (h.kept.block i hi hn)
  rcases hh with hh | hh | hh
  ·exact hn (.inl hh)
  ·rcases h.fresh i hh with h2 | h2
   ·exact hn (.inr (.inl h2))
   ·omega
  ·exact hn (.inr (.inr hh))
 ·rcases k.fresh i hi with h2 | h2
  ·exact h.fresh i h2
  ·exact .inr (Nat.le_trans h.kept.size h2)
structure RdEnv (b:Nat) (w:World):Prop where
 err:ErrOk w
 w0:w.cell? ⟨0,0,none⟩=some (.string (sb [110,117,108,108]))
 w1:w.cell? ⟨0,1,none⟩=some (.string (sb [116,114,117,101]))
 w2:w.cell? ⟨0,2,none⟩=some (.string (sb [102,97,108,115,101]))
 lt:0 < b∧4 < b∧5 < b
theorem RdEnv.kept {b:Nat} {w w':World} {S:Nat→Prop} (h:RdEnv b w) (k:Kept w w' S) (hS:∀i,i < b→¬S i):RdEnv b w':=by
 obtain ⟨⟨⟨a,c,h1⟩,⟨d,e,h2⟩⟩,h3,h4,h5,l1,l2,l3⟩:=h
 exact ⟨⟨⟨a,c,k.cell h1 (hS _ l2)⟩,⟨d,e,k.cell h2 (hS _ l3)⟩⟩,k.cell h3 (hS _ l1),k.cell h4 (hS _ l1),k.cell h5 (hS _ l1),l1,l2,l3⟩
theorem RdEnv.stg {b lo hi:Nat} {w w':World} {s:List UInt8} {v v':Value} {L:List V} {d:Int} (h:RdEnv b w) (k:StG w w' b lo hi v v') (r:RSt w b s v L d) (hlo:b < lo):RdEnv b w':=
 h.kept k.kept fun i hi hk=> by
  rcases hk with hk | hk | hk
  ·omega
  ·have:=(r.own.block hk).1
   omega
  ·omega
theorem RdEnv.stp {b:Nat} {w w':World} {s:List UInt8} {v v':Value} {L:List V} {d:Int} (h:RdEnv b w) (k:Stp w w' b v v') (r:RSt w b s v L d):RdEnv b w':=
 h.stg (k.stg (b+1) (b+1)) r (by omega)
theorem RdEnv.below {b:Nat} {w w':World} (h:RdEnv b w) (k:Below w.heap.size w w'):RdEnv b w':=h.kept (S:=fun _=> False) (qad k) fun _ _ h=> h
def OnePost (b lo hi:Nat) (J:List (List UInt8)→World→Prop) (ks:List (List UInt8)) (v:Value) (L:List V) (d:Nat) (w:World) (R:Res) (e:Ending) (w':World):Prop:=
 match R with
 | .ok _ l r=> e= .returned (.int .i64 0)∧∃v',RSt w' b r v' (L++l) d∧StG w w' b lo hi v v'∧J (Js.keyOf l::ks) w'
 | .err c=> e= .returned (.int .i64 (c:Nat))∧c≠0∧∃s' v' L' d',RSt w' b s' v' L' d'∧StG w w' b lo hi v v'∧L.length≤L'.length
structure OneIs (gid:Nat) (C:Array Value) (b lo hi:Nat) (J:List (List UInt8)→World→Prop) (o:Bool) (F:Nat):Prop where
 enters:∀args w,(callFunc gid args).run Tryz.prog w= .ok (.enter gid args) w
 kept:∀ks w w' S,J ks w→Kept w w' S→(∀k,lo≤k→k < hi→¬S k)→J ks w'
 call:∀(g:Nat),g < F→∀(w:World) (ks:List (List UInt8)) (s:List UInt8) (v:Value) (L:List V) (d:Nat),J ks w→RSt w b s v L d→RdEnv b w→(∀k,v.ownBlock=some k→k < lo∨hi≤k)→hi≤w.heap.size→
  s.length≤g→s.length≤1000000000→L.length≤5000→d≤50→ks.length≤5000→Calls Tryz.prog gid C w (OnePost b lo hi J ks v L d w (oneF g o d L.length ks s))
structure GS (w:World) (b lo hi:Nat) (J:List (List UInt8)→World→Prop) (o:Bool) (v:Value) (L:List V) (d:Nat) (R:Res) (g n:Nat) (ks:List (List UInt8)) (l:List V) (s:List UInt8) (vx:Value) (wx:World):Prop where
 st:RSt wx b s vx (L++l) d
 step:StG w wx b lo hi v vx
 j:J ks wx
 env:RdEnv b wx
 res:R=headF g o d (L++l).length n ks l s
 fuel:s.length+1≤g
 zero:n=0→l=[]
 few:(L++l).length≤5000
 cnt:n≤l.length
 keys:ks.length=n
def GrpPost (b lo hi:Nat) (v:Value) (L:List V) (d:Int) (w:World) (R:CR) (e:Ending) (w':World):Prop:=
 match R with
 | .ok _ n l r=> e= .returned (.tuple #[.int .i64 (n:Nat), .int .i64 0])∧∃v',RSt w' b r v' (L++l) d∧StG w w' b lo hi v v'
 | .err c=> e= .returned (.tuple #[.int .i64 0, .int .i64 (c:Nat)])∧c≠0∧∃s' v' L' d',RSt w' b s' v' L' d'∧StG w w' b lo hi v v'∧L.length≤L'.length
section
variable {w wx w1:World} {b lo hi:Nat} {J:List (List UInt8)→World→Prop} {o:Bool} {v vx:Value} {L l:List V} {d g n:Nat} {R:Res} {ks:List (List UInt8)} {s:List UInt8} {gid:Nat} {C:Array Value} {F:Nat}
theorem GS.apart (h:GS w b lo hi J o v L d R g n ks l s vx wx) (hv:∀k,v.ownBlock=some k→k < lo∨hi≤k) (hh:hi≤w.heap.size):∀k,vx.ownBlock=some k→k < lo∨hi≤k:=fun k hk=> by
 rcases h.step.fresh k hk with h2 | h2
 ·exact hv k h2
 ·exact .inr (by omega)
theorem GS.sign {s2:List UInt8} (h:GS w b lo hi J o v L d R g n ks l s vx wx) (H:OneIs gid C b lo hi J o F) (hb:b < lo) (hv:∀k,v.ownBlock=some k→k < lo∨hi≤k) (hh:hi≤w.heap.size) (h1:RSt w1 b s2 vx (L++l) d) (h2:Stp wx w1 b vx vx):
  StG w w1 b lo hi v vx∧J ks w1∧RdEnv b w1:=
 ⟨h.step.trans (h2.stg lo hi),H.kept ks wx w1 _ h.j h2.kept (fun k hk1 hk2 hk=> by
  rcases hk with rfl | hk
  ·omega
  ·have:=h.apart hv hh k hk
   omega),h.env.stp h2 h.st⟩
theorem GS.next {m:Nat} {l1:List V} {r:List UInt8} {v':Value} {w4 w5:World} (h:GS w b lo hi J o v L d R (g+1) n ks l s vx wx) (k1:StG w w4 b lo hi v vx)
  (hst:R=stepF g o d (L++l).length n ks l (oneF g o d (L++l).length ks (upto n s))) (hx:Res.ok m l1 r=oneF g o d (L++l).length ks (upto n s)) (st:RSt w5 b r v' (L++l++l1) d) (k2:StG w4 w5 b lo hi vx v') (j:J (Js.keyOf l1::ks) w5) (env:RdEnv b w5):
  GS w b lo hi J o v L d R g (n+1) (Js.keyOf l1::ks) (l++l1) r v' w5:=by
 obtain ⟨_,f2,f3,f4⟩:=qdh hx.symm
 have hl:=qgp n s
 have hfu:=h.fuel
 have e:L++(l++l1)=L++l++l1:=(List.append_assoc _ _ _).symm
 refine ⟨by rw [e];exact st,k1.trans k2,j,env, ?_,by omega,fun h=> by omega,by rw [e,List.length_append];exact f4,by rw [List.length_append];have:=h.cnt;omega,by rw [List.length_cons,h.keys]⟩
 have e2:(L++l++l1).length=(L++l).length+l1.length:=List.length_append
 rw [hst,←hx,e,e2]
 rfl
end
theorem qqi (w:World) (b lo hi:Nat) (J:List (List UInt8)→World→Prop) (o:Bool) (F gid:Nat) (C:Array Value) (H:OneIs gid C b lo hi J o F) (a:UInt8) (s:List UInt8) (v:Value) (L:List V) (d:Nat)
  (hR:RSt w b (a::s) v L d) (hE:RdEnv b w) (hJ:J [] w) (ha:skip (a::s)=a::s) (hb:b < lo) (hv:∀k,v.ownBlock=some k→k < lo∨hi≤k) (hh:hi≤w.heap.size) (hf:s.length+1≤F) (hs:s.length≤999999999) (hL:L.length≤5000) (hd:d < 50):
  Calls Tryz.prog 129 #[.pointer (some ⟨b,0,none⟩), .string (sb [a]), .string (sb [close o]), .func (.func gid) #[] C] w
   (GrpPost b lo hi v L d w (grpF (kids F o (d+1) L.length []) (close o) s)):=by
 have HS1:=Qh (qga w b (a::s) [a] v L d hR)
 rw [ha]at HS1
 have hp:[a].isPrefixOf (a::s)=true:=qa7.2 ⟨s,rfl⟩
 rw [hp,if_pos rfl]at HS1
 change Hid (Calls _ _ _ _ fun e w'=> _∧Hid (RSt w' b s v L d∧_))at HS1
 have HH:=Qh H
 have HEV:=Qh hE
 have HR:=Qh hR
 have HJ:=Qh hJ
 have HV:=Qh hv
 have eg:=H.enters
 have hd1:(0:Int)≤(d:Int):=by omega
 have hd2:(d:Int) < 50:=by omega
 rw [qyf]
 obtain ⟨RR,hRR⟩:∃RR,RR=headF F o (d+1) L.length 0 [] [] s:=⟨_,rfl⟩
 rw [←hRR]
 have HRR:=Qh hRR
 clear hRR hp ha hR hE hJ hv H
 go_enter Tryz.func129,Tryz.ntmps129
 go_wp2_with fail
 refine HS1.out.mono ?_
 rintro e w1 ⟨rfl,HX1⟩
 obtain ⟨_,_,c2⟩:=HX1.out.1.cells
 have hf2:=HX1.out.1.row.frozen 2
 have HX2:=Qh (HX1.out.1.deep ((d:Int)+1))
 clear HS1
 go_wp2_with fail
 have HW:=Qh (RdEnv.stp (RdEnv.stp HEV.out HX1.out.2 HR.out) HX2.out.2 HX1.out.1)
 have HST:=Qh ((HX1.out.2.trans HX2.out.2).stg lo hi)
 have HJ2:=Qh (HH.out.kept [] w _ _ HJ.out (HX1.out.2.trans HX2.out.2).kept (fun k hk1 hk2 hk=> by
  rcases hk with hk | hk
  ·omega
  ·have:=HV.out k hk
   omega))
 generalize hw2:w1.setCell {block:=b,off:=2} (Value.int IntKind.i64 (↑d+1))=w2 at*
 clear hw2 c2 hf2 HJ HEV
 go_loopg [10] F (fun g vc wx=> ∃(n:Nat) (ks:List (List UInt8)) (l:List V) (s2:List UInt8) (vx:Value),vc= .int .i64 (n:Int)∧n≤5000∧g≤F∧s2.length≤999999999∧Hid (GS w b lo hi J o v L (d+1) RR g n ks l s2 vx wx))
 case atStart=>
  exact ⟨0,[],[],s,v,rfl,by omega,Nat.le_refl _,hs,Qh ⟨by rw [List.append_nil];exact HX2.out.1,HST.out,HJ2.out,HW.out,by rw [List.append_nil];exact HRR.out,hf,fun _=> rfl,by rw [List.append_nil];exact hL,Nat.zero_le _,rfl⟩⟩
 case round=>
  obtain ⟨n,ks,l,s2,vx,rfl,hn5,hgF,hs2,HS⟩:=hrel
  have HQ:=Qh (qga wr b s2 [close o] vx (L++l) _ HS.out.st)
  have hn0:(0:Int)≤(n:Int):=by omega
  have hn6:(n:Int)≤5000:=by omega
  clear HX1 HX2 HW HST HJ2 HRR HR;cases hq:[close o].isPrefixOf (skip s2)with
  | true=>
   rw [hq,if_pos rfl]at HQ
   change Hid (Calls _ _ _ _ fun e w'=> _∧Hid (RSt w' b ((skip s2).drop 1) vx (L++l) ((d:Int)+1)∧_))at HQ
   have hres:RR= .ok n l ((skip s2).drop 1):=by rw [HS.out.res];exact quj hq HS.out.zero
   have HRES:=Qh hres
   have HP:=Qh (fun w4 (h1:RSt w4 b ((skip s2).drop 1) vx (L++l) d) (h2:Stp wr w4 b vx vx)=> show ∃v',RSt w4 b ((skip s2).drop 1) v' (L++l) d∧StG w w4 b lo hi v v' from ⟨vx,h1,HS.out.step.trans (h2.stg lo hi)⟩)
   clear HS hres hq;generalize (skip s2).drop 1=s3 at*;go_wp2_with fail;refine HQ.out.mono ?_
   rintro e w3 ⟨rfl,HX3⟩;have c2:w3.cell? ⟨b,2,none⟩=some (.int .i64 ((d:Int)+1)):=HX3.out.1.cells.2.2
   have hf2:=HX3.out.1.row.frozen 2
   have HX4:=Qh (HX3.out.1.deep (d:Int))
   clear HQ;go_wp2_with fail;go_ret2;show GrpPost b lo hi v L (d:Int) w (toC RR) _ _
   rw [HRES.out];refine ⟨rfl,HP.out _ ?_ ?_⟩
   ·exact HX4.out.1
   ·exact HX3.out.2.trans HX4.out.2
  | false=>
   rw [hq,if_neg (by decide)]at HQ
   change Hid (Calls _ _ _ _ fun e w'=> _∧Hid (RSt w' b (skip s2) vx (L++l) ((d:Int)+1)∧_))at HQ
   cases gk with
   | zero=> exact absurd HS.out.fuel (by omega)
   | succ g=>
    have HTL:=Qh (fun w4 (h1:RSt w4 b (upto n s2) vx (L++l) ((d+1:Nat):Int)) (h2:Stp wr w4 b vx vx)=> by
     obtain ⟨k1,k2,k3⟩:=HS.out.sign HH.out hb HV.out hh h1 h2
     have hl:=qgp n s2
     have hfu:=HS.out.fuel
     have hsz:=k1.kept.size
     exact HH.out.call g (by omega) w4 ks (upto n s2) vx (L++l) (d+1) k2 h1 k3 (HS.out.apart HV.out hh) (by omega) (by omega) (by omega) HS.out.few (by omega) (by rw [HS.out.keys];exact hn5))
    by_cases hz:n=0
    ·subst hz
     have hup:upto 0 s2=skip s2:=if_pos rfl
     have hst:=HS.out.res.trans (qmh hq (fun h=> absurd rfl h) HS.out.zero)
     rw [hup]at HTL hst
     have HUP:=Qh hup
     clear hup hq;go_wp2_with fail;refine HQ.out.mono ?_
     rintro e w3 ⟨rfl,HX3⟩;have HK:=Qh (HS.out.sign HH.out hb HV.out hh HX3.out.1 HX3.out.2)
     clear HQ;go_wp2_with fail;have HENV:=Qh (fun w5 v' (k2:StG w3 w5 b lo hi vx v')=> RdEnv.stg (HK.out.2.2) k2 HX3.out.1 hb)
     obtain ⟨R1,hR1⟩:∃R1,R1=oneF g o (d+1) (L++l).length ks (skip s2):=⟨_,rfl⟩
     rw [←hR1]at HTL hst
     cases R1 with
     | ok m l1 r=>
      have HFA:=Qh (qdh hR1.symm)
      have HN:=Qh (fun v' w5 (st:RSt w5 b r v' (L++l++l1) ((d+1:Nat):Int)) (k2:StG w3 w5 b lo hi vx v') (j:J (Js.keyOf l1::ks) w5)=> HS.out.next (w4:=w3) HK.out.1 (by rw [HUP.out,←hR1];exact hst) (by rw [HUP.out];exact hR1) st k2 j (HENV.out w5 v' k2))
      have HTM:=Qh (HTL.out w3 HX3.out.1 HX3.out.2)
      have HCN:=Qh (And.intro HS.out.cnt HS.out.few)
      have HLE:=Qh (HUP.out▸qgp 0 s2)
      clear HTL hst hR1 HENV HK HS HX3 HUP;refine HTM.out.mono ?_
      rintro e w5 ⟨rfl,v',P1,P2,P3⟩;have HG:=Qh (HN.out v' w5 P1 P2 P3)
      clear HN HTM P1 P2 P3;go_wp2_with fail;go_roundg g
      case measure=> omega
      case rel=>
       have h1:=HFA.out
       have h2:=HCN.out
       have h3:=HG.out.cnt
       have h4:=HG.out.few
       have h5:=HLE.out
       rw [List.length_append]at h3 h4
       rw [List.length_append]at h4
       refine ⟨0+1,_,l++l1,r,v',by go_num,by omega,by omega, ?_,HG⟩
       have:=h1.2.2.1
       have:=HG.out.fuel
       omega
     | err c=>
      have HK2:=Qh (fun v' w5 (k2:StG w3 w5 b lo hi vx v')=> HK.out.1.trans k2)
      have HTM:=Qh (HTL.out w3 HX3.out.1 HX3.out.2)
      have HRES:=Qh (show RR= .err c from hst)
      clear HTL hst hR1 HENV HK HS HX3 HUP;refine HTM.out.mono ?_
      rintro e w5 ⟨rfl,hc0,s',v',L',d',P1,P2,P3⟩;have HG:=Qh (And.intro P1 (And.intro (HK2.out v' w5 P2) P3))
      have hc1:¬(c:Int)=0:=by omega
      clear HK2 HTM P1 P2 P3;go_wp2_with fail;go_ret2;show GrpPost b lo hi v L (d:Int) w (toC RR) _ _
      rw [HRES.out];refine ⟨rfl,hc0,s',v',L',d',HG.out.1,HG.out.2.1, ?_⟩
      have:=HG.out.2.2
      rw [List.length_append]at this
      omega
    ·have hnz:(0:Int) < (n:Int):=by omega
     have hup:upto n s2=(skip s2).drop 1:=if_neg hz
     have HQ2:=Qh (fun w3 (h:RSt w3 b (skip s2) vx (L++l) ((d:Int)+1))=> qga w3 b (skip s2) [44] vx (L++l) _ h)
     rw [qa3]at HQ2
     cases hq2:[44].isPrefixOf (skip s2)with
     | false=>
      rw [hq2,if_neg (by decide)]at HQ2
      have HRES:=Qh (HS.out.res.trans (qw7 hq hq2 hz))
      have HP:=Qh (fun w4 (h1:RSt w4 b (skip s2) vx (L++l) ((d:Int)+1)) (h2:Stp wr w4 b vx vx)=> show ∃s' v' L' d',RSt w4 b s' v' L' d'∧StG w w4 b lo hi v v'∧L.length≤L'.length from ⟨_,vx,_,_,h1,HS.out.step.trans (h2.stg lo hi),by rw [List.length_append];omega⟩)
      clear HS hq hq2 HTL hup;go_wp2_with fail;refine HQ.out.mono ?_
      rintro e w3 ⟨rfl,HX3⟩;have HQ3:=Qh (HQ2.out w3 HX3.out.1)
      clear HQ HQ2;go_wp2_with fail;refine HQ3.out.mono ?_
      rintro e w4 ⟨rfl,HX4⟩;clear HQ3;go_wp2_with fail;go_ret2;show GrpPost b lo hi v L (d:Int) w (toC RR) _ _
      rw [HRES.out];exact ⟨rfl,by decide,HP.out _ HX4.out.1 (HX3.out.2.trans HX4.out.2)⟩
     | true=>
      rw [hq2,if_pos rfl]at HQ2
      change Hid (∀w3,RSt w3 b (skip s2) vx (L++l) ((d:Int)+1)→Calls _ _ _ _ fun e w'=> _∧Hid (RSt w' b ((skip s2).drop 1) vx (L++l) ((d:Int)+1)∧_))at HQ2
      have hst:=HS.out.res.trans (qmh hq (fun _=> hq2) HS.out.zero)
      rw [hup]at HTL hst
      have HUP:=Qh hup
      clear hup hq hq2;go_wp2_with fail;refine HQ.out.mono ?_
      rintro e wq ⟨rfl,HXq⟩;have HQ3:=Qh (HQ2.out wq HXq.out.1)
      clear HQ HQ2;go_wp2_with fail;refine HQ3.out.mono ?_
      rintro e w3 ⟨rfl,HXr⟩;have HX3:=Qh (And.intro HXr.out.1 (HXq.out.2.trans HXr.out.2))
      have HK:=Qh (HS.out.sign HH.out hb HV.out hh HX3.out.1 HX3.out.2)
      clear HQ3 HXq HXr;go_wp2_with fail;have HENV:=Qh (fun w5 v' (k2:StG w3 w5 b lo hi vx v')=> RdEnv.stg (HK.out.2.2) k2 HX3.out.1 hb)
      obtain ⟨R1,hR1⟩:∃R1,R1=oneF g o (d+1) (L++l).length ks ((skip s2).drop 1):=⟨_,rfl⟩
      rw [←hR1]at HTL hst
      cases R1 with
      | ok m l1 r=>
       have HFA:=Qh (qdh hR1.symm)
       have HN:=Qh (fun v' w5 (st:RSt w5 b r v' (L++l++l1) ((d+1:Nat):Int)) (k2:StG w3 w5 b lo hi vx v') (j:J (Js.keyOf l1::ks) w5)=> HS.out.next (w4:=w3) HK.out.1 (by rw [HUP.out,←hR1];exact hst) (by rw [HUP.out];exact hR1) st k2 j (HENV.out w5 v' k2))
       have HTM:=Qh (HTL.out w3 HX3.out.1 HX3.out.2)
       have HCN:=Qh (And.intro HS.out.cnt HS.out.few)
       have HLE:=Qh (HUP.out▸qgp n s2)
       clear HTL hst hR1 HENV HK HS HX3 HUP;refine HTM.out.mono ?_
       rintro e w5 ⟨rfl,v',P1,P2,P3⟩;have HG:=Qh (HN.out v' w5 P1 P2 P3)
       clear HN HTM P1 P2 P3;go_wp2_with fail;go_roundg g
       case measure=> omega
       case rel=>
        have h1:=HFA.out
        have h2:=HCN.out
        have h3:=HG.out.cnt
        have h4:=HG.out.few
        have h5:=HLE.out
        rw [List.length_append]at h3 h4
        rw [List.length_append]at h4
        refine ⟨n+1,_,l++l1,r,v',by go_num,by omega,by omega, ?_,HG⟩
        have:=h1.2.2.1
        have:=HG.out.fuel
        omega
      | err c=>
       have HK2:=Qh (fun v' w5 (k2:StG w3 w5 b lo hi vx v')=> HK.out.1.trans k2)
       have HTM:=Qh (HTL.out w3 HX3.out.1 HX3.out.2)
       have HRES:=Qh (show RR= .err c from hst)
       clear HTL hst hR1 HENV HK HS HX3 HUP;refine HTM.out.mono ?_
       rintro e w5 ⟨rfl,hc0,s',v',L',d',P1,P2,P3⟩;have HG:=Qh (And.intro P1 (And.intro (HK2.out v' w5 P2) P3))
       have hc1:¬(c:Int)=0:=by omega
       clear HK2 HTM P1 P2 P3;go_wp2_with fail;go_ret2;show GrpPost b lo hi v L (d:Int) w (toC RR) _ _
       rw [HRES.out];refine ⟨rfl,hc0,s',v',L',d',HG.out.1,HG.out.2.1, ?_⟩
       have:=HG.out.2.2
       rw [List.length_append]at this
       omega
end Go.Proofs.YtgmangikcfakgaaGreatDoor
namespace Go.Proofs.YtgmangikcfakgaaGreatDoor
open Go.RowKit Go.Maps Go.WideMaps Sh Jt Js
def ValPost (b:Nat) (v:Value) (L:List V) (d:Nat) (w:World) (R:Res) (e:Ending) (w':World):Prop:=
 match R with
 | .ok _ l r=> e= .returned (.int .i64 0)∧∃v',RSt w' b r v' (L++l) d∧Stp w w' b v v'
 | .err c=> e= .returned (.int .i64 (c:Nat))∧c≠0∧∃s' v' L' d',RSt w' b s' v' L' d'∧Stp w w' b v v'∧L.length≤L'.length
def ValP (g:Nat):Prop:=∀(w:World) (b:Nat) (s:List UInt8) (v:Value) (L:List V) (d:Nat) (key:List UInt8),RSt w b s v L d→RdEnv b w→s.length≤g→s.length≤1000000000→L.length≤5000→d≤50→
 Calls Tryz.prog 59 #[.pointer (some ⟨b,0,none⟩), .string (sb key)] w (ValPost b v L d w (valW (fun o2=> kids g o2 (d+1) (L.length+1) []) key d L.length s))
theorem qf9:sb []=⟨#[]⟩:=rfl
def JL (box b:Nat) (_:List (List UInt8)) (w:World):Prop:=w.cell? ⟨box,0,none⟩=some (.pointer (some ⟨b,0,none⟩))
theorem qs7 (box b F:Nat) (hV:∀g,g < F→ValP g):OneIs 130 #[.pointer (some ⟨box,0,none⟩)] b box (box+1) (JL box b) false F:=by
 refine ⟨enters_of Tryz.func130 (by kernel_rfl) rfl,fun ks w w' S h k hS=> k.cell h (hS box (Nat.le_refl _) (by omega)), ?_⟩
 intro g hg w ks s v L d hJ hR hE hv hh hs hs2 hL hd _
 have HV:=Qh (hV g hg w b s v L d [] hR hE hs hs2 hL hd)
 have e1:oneF g false d L.length ks s=valW (fun o2=> kids g o2 (d+1) (L.length+1) []) [] d L.length s:=rfl
 rw [e1]
 have HRR:=Qh (fun n l r (h:valW (fun o2=> kids g o2 (d+1) (L.length+1) []) [] d L.length s= .ok n l r)=> (qi2 h).2.1)
 have c0:w.cell? ⟨box,0,none⟩=some (.pointer (some ⟨b,0,none⟩)):=hJ
 have HJ:=Qh (fun w' (k:StG w w' b box (box+1) v v)=> k)
 generalize valW (fun o2=> kids g o2 (d+1) (L.length+1) []) [] d L.length s=R at*
 rw [qf9]at HV
 have hbl:b < box∨box≤b:=by omega
 clear hV e1 hE HJ
 have HK:=Qh (fun w' v' (k:Stp w w' b v v')=> show JL box b [] w' from k.kept.cell c0 (fun hk=> by
  rcases hk with hk | hk
  ·have h2:=hR.cells.1
   rw [←show box=b from hk,c0]at h2
   cases h2
  ·have:=hv box hk
   omega))
 clear hR hJ hv
 go_enter Tryz.func130,Tryz.ntmps130
 go_wp2_with fail
 refine HV.out.mono ?_
 intro e w1 hp
 cases R with
 | ok n l r=>
  obtain ⟨rfl,v',P1,P2⟩:=hp
  have HG:=Qh (And.intro P1 (And.intro (P2.stg box (box+1)) (HK.out w1 v' P2)))
  clear P1 P2 HV;go_wp2_with fail;go_ret;exact ⟨rfl,v',HG.out.1,HG.out.2.1,HG.out.2.2⟩
 | err c=>
  obtain ⟨rfl,hc,s',v',L',d',P1,P2,P3⟩:=hp
  have HG:=Qh (And.intro P1 (And.intro (P2.stg box (box+1)) P3))
  clear P1 P2 P3 HV;go_wp2_with fail;go_ret;exact ⟨rfl,hc,s',v',L',d',HG.out.1,HG.out.2.1,HG.out.2.2⟩
namespace Js
def keyL (k:List UInt8):Lit:= .string k
def keySet (ks:List (List UInt8)):DataW Unit:=setOf (.agg []) (ks.reverse.map keyL)
theorem qja (k:List UInt8) (ks:List (List UInt8)):keySet (k::ks)=(keySet ks).put (keyL k) (.agg []):=by
 unfold keySet
 rw [List.reverse_cons,List.map_append,List.map_singleton,setOf_snoc]
theorem qlb (k:List UInt8) (ks:List (List UInt8)):Maps.has (keySet ks) (keyL k)=decide (k∈ks):=by
 unfold keySet
 rw [has_setOf _ _ _ (fun x hx=> by
  obtain ⟨p,_,rfl⟩:=List.mem_map.1 hx
  trivial)]
 rw [Bool.eq_iff_iff,List.any_eq_true,decide_eq_true_iff]
 constructor
 ·rintro ⟨y,hy,h⟩
  obtain ⟨p,hp,rfl⟩:=List.mem_map.1 hy
  have:p=k:=by simpa [keyL,Lit.sameKey] using h
  rw [←this];exact List.mem_reverse.1 hp
 ·intro h
  exact ⟨keyL k,List.mem_map.2 ⟨k,List.mem_reverse.2 h,rfl⟩,by simp [keyL,Lit.sameKey]⟩
theorem qhl {H:Type} {P:Program} {k:TypeId} {R:Value→Option (DataW H×List MemPlace)} {w w':World} {b n:Nat} {D:DataW H} (h:w.ownsMap P k R b n D) (e:w'.heap[b]? =w.heap[b]?):w'.ownsMap P k R b n D:=by
 unfold World.ownsMap at*
 rw [e]
 exact h
end Js
theorem qu8:∀(m:Nat) (s:List UInt8),s.length≤m→∀x k,unqB s=some (x,k)→x.length≤4*s.length:=by
 intro m
 induction m with
 | zero=>
  intro s hs x k h;obtain rfl:s=[]:=List.eq_nil_of_length_eq_zero (by omega)
  rw [unqB]at h
  cases h
 | succ m ih=>
  intro s hs x k h;match s with
  | []=> rw [unqB]at h;cases h
  | a::r=>
   rw [List.length_cons]at hs
   rw [List.length_cons];rw [unqB]at h
   split at h
   ·injection h with h
    injection h with h _
    rw [←h];exact Nat.zero_le _
   ·split at h
    ·obtain ⟨e,he,h⟩:=Option.bind_eq_some_iff.1 h
     obtain ⟨p,hp,h⟩:=Option.map_eq_some_iff.1 h
     injection h with h _
     obtain ⟨y,j⟩:=e
     obtain ⟨q,i⟩:=p
     obtain ⟨⟨c,_,hc⟩,_⟩:=qsi he
     have h1:=qb9 c
     have h2:=ih (r.drop j) (by rw [List.length_drop];omega) q i hp
     rw [List.length_drop]at h2
     rw [←h];show (y++q).length≤_
     rw [List.length_append,hc];omega
    ·split at h
     ·cases h
     ·obtain ⟨p,hp,h⟩:=Option.map_eq_some_iff.1 h
      injection h with h _
      obtain ⟨q,i⟩:=p
      have h1:=qb9 (charF (a::r)).1
      have h2:=ih _ (by rw [List.length_drop];omega) q i hp
      rw [List.length_drop]at h2
      rw [←h];show (bytesF (charF (a::r)).1++q).length≤_
      rw [List.length_append];omega
theorem qkb {s x:List UInt8} {k:Nat} (h:unqF s=some (x,k)):x.length≤4*s.length:=by
 match s with
 | []=> cases h
 | a::r=>
  rw [unqF]at h
  split at h
  ·obtain ⟨p,hp,h⟩:=Option.map_eq_some_iff.1 h
   injection h with h _
   obtain ⟨q,i⟩:=p
   have:=qu8 _ r (Nat.le_refl _) q i hp
   rw [←h,List.length_cons];show q.length≤_
   omega
  ·cases h
theorem qtw {w w':World} {m:Nat} (h:w.grownBy w' (some m)):Kept w w' (·=m):=⟨h.os,h.tape,h.output,h.size,fun k hk hn=> h.block k hk (fun e=> hn (Option.some.inj e))⟩
theorem qlk:Keyed Tryz.prog 9:=string_keyed Tryz.underlying9
structure JO (m b:Nat) (ks:List (List UInt8)) (w:World):Prop where
 box:w.cell? ⟨m,0,none⟩=some (.pointer (some ⟨b,0,none⟩))
 cell:w.cell? ⟨m+2,0,none⟩=some (.map (some (m+1)))
 set:w.ownsMap Tryz.prog 9 (unitElem (H:=Unit)) (m+1) ks.length (keySet ks)
theorem JO.kept {m b:Nat} {ks:List (List UInt8)} {w w':World} {S:Nat→Prop} (h:JO m b ks w) (k:Kept w w' S) (hS:∀i,m≤i→i < m+3→¬S i):JO m b ks w':=
 ⟨k.cell h.box (hS m (Nat.le_refl _) (by omega)),k.cell h.cell (hS (m+2) (by omega) (by omega)),qhl h.set (k.block (m+1) h.set.lt (hS (m+1) (by omega) (by omega)))⟩
theorem qo6 (m b F:Nat) (hbm:b < m) (hV:∀g,g < F→ValP g):OneIs 167 #[.pointer (some ⟨m,0,none⟩), .pointer (some ⟨m+2,0,none⟩)] b m (m+3) (JO m b) true F:=by
 refine ⟨enters_of Tryz.func167 (by kernel_rfl) rfl,fun ks w w' S h k hS=> h.kept k hS, ?_⟩
 intro g hg w ks s v L d hJ hR hE hv hh hs hs2 hL hd hks
 have HS:=Qh (qi0 w b s v L d hR)
 have HJ:=Qh hJ
 have HV:=Qh (hV g hg)
 have HE:=Qh hE
 have HR:=Qh hR
 have HAP:=Qh hv
 have HHK:=Qh (fun (w':World) (k:Stp w w' b v v)=> hJ.kept k.kept (fun i h1 h2 hk=> by
  rcases hk with hk | hk
  ·omega
  ·have:=hv i hk
   omega))
 have c0:=hJ.box
 have e1:oneF g true d L.length ks s=nameF ks s fun key s1=> valW (fun o2=> kids g o2 (d+1) (L.length+1) []) key d L.length s1:=rfl
 have hsl:=qba s
 rw [e1]
 clear e1 hJ hR hE hv hV
 obtain ⟨RR,hRR⟩:∃RR,RR=nameF ks s (fun key s1=> valW (fun o2=> kids g o2 (d+1) (L.length+1) []) key d L.length s1):=⟨_,rfl⟩
 rw [←hRR]
 have HN:=Qh hRR
 clear hRR
 unfold nameF at HN
 generalize hs1:skip s=s1 at*
 go_enter Tryz.func167,Tryz.ntmps167
 go_wp2_with fail
 refine HS.out.mono ?_
 rintro e w1 ⟨rfl,HX1⟩
 have HJ1:=Qh (HHK.out w1 HX1.out.2)
 have HE1:=Qh (HE.out.stp HX1.out.2 HR.out)
 have HT:=Qh (qso w1 b s1 v L d HX1.out.1 (by omega) HE1.out.err)
 have c1:=HJ1.out.box
 have hsz1:=HX1.out.2.size
 clear HS c0
 cases hu:unqF s1 with
 | none=>
  rw [hu]at HT HN
  unfold textV textR at HT;dsimp only at HN HT
  have HP:=Qh (fun w2 (h1:RSt w2 b s1 v L d) (h2:Stp w1 w2 b v v)=> show ∃s' v' L' d',RSt w2 b s' v' L' d'∧StG w w2 b m (m+3) v v'∧L.length≤L'.length from ⟨_,v,_,_,h1,(HX1.out.2.trans h2).stg _ _,Nat.le_refl _⟩)
  go_wp2_with fail;refine HT.out.mono ?_
  rintro e w2 ⟨rfl,HX2⟩;clear HT;go_wp2_with fail;go_ret;show OnePost b m (m+3) (JO m b) ks v L d w _ _ _
  rw [HN.out];exact ⟨rfl,by decide,HP.out _ HX2.out.1 HX2.out.2⟩
 | some p=>
  obtain ⟨x,n⟩:=p
  rw [hu]at HT HN
  unfold textV textR at HT;dsimp only at HN HT
  have hle:=(qid hu).1
  dsimp only at hle
  have HKY:=Qh (show keyOf Tryz.prog 9 (.string (sb x))=some (keyL x)from keyOf_string_mk Tryz.underlying9 (by have:=qkb hu;rw [qag];unfold maxLen;omega))
  have hz:=fun W=> Tryz.zeroValue172 W
  have HX:=Qh (fun w2 (h:RSt w2 b (s1.drop n) v L d∧Stp w1 w2 b v v)=> show JO m b ks w2 from HHK.out w2 (HX1.out.2.trans h.2))
  go_wp2_with fail;refine HT.out.mono ?_
  rintro e w2 ⟨rfl,HX2⟩;have HJ2:=Qh (HX.out w2 HX2.out)
  have c2:=HJ2.out.box
  have c3:=HJ2.out.cell
  clear HT HX HJ1 c1;by_cases hin:x∈ks
  ·rw [if_pos hin]at HN
   have hhas:Maps.has (keySet ks) (keyL x)=true:=by rw [qlb];exact decide_eq_true hin
   have HP:=Qh (fun w3 (h:Below w2.heap.size w2 w3)=> show ∃s' v' L' d',RSt w3 b s' v' L' d'∧StG w w3 b m (m+3) v v'∧L.length≤L'.length from ⟨_,v,_,_,HX2.out.1.below h,((HX1.out.2.trans HX2.out.2).trans (Stp.of_below h b v)).stg _ _,Nat.le_refl _⟩)
   generalize sb x=X at*;go_wp2_with (first | (at_lookup;refine wpList_lookup_own_unit _ rfl _ _ 171 rfl 9 172 qlk Tryz.underlying171 (hz _) (m+1) ks.length _ rfl HJ2.out.set _ _ rfl HKY.out ?_;rw [hhas]))
   go_ret;show OnePost b m (m+3) (JO m b) ks v L d w RR _ _
   rw [HN.out];exact ⟨rfl,by decide,HP.out _ ((Below.refl _ _).alloc (Nat.le_refl _) _)⟩
  ·rw [if_neg hin]at HN
   have c3a:(w2.alloc (.cells #[] 172)).cell? ⟨m+2,0,none⟩=some (.map (some (m+1))):=(qgm w2 _).cell c3 (fun h=> h)
   have hhas:Maps.has (keySet ks) (keyL x)=false:=by rw [qlb];exact decide_eq_false hin
   have HP:=Qh (fun w3 (h1:w3.ownsMap Tryz.prog 9 (unitElem (H:=Unit)) (m+1) (ks.length+1) ((keySet ks).put (keyL x) (.agg []))) (h2:(w2.alloc (.cells #[] 172)).grownBy w3 (some (m+1)))=> show RSt w3 b (s1.drop n) v L d∧StG w w3 b m (m+3) v v∧JO m b (x::ks) w3∧RdEnv b w3 from by
    have hs12:=HX2.out.2.size
    have k1:=(Kept.refl w2 (·=m+1)).alloc (.cells #[] 172)
    have k2:Kept w2 w3 (·=m+1):=⟨h2.os,h2.tape,h2.output,Nat.le_trans k1.size h2.size,fun i hi hn=> ((qtw h2).block i (Nat.lt_of_lt_of_le hi k1.size) hn).trans (k1.block i hi hn)⟩
    have hst:StG w w3 b m (m+3) v v:=((HX1.out.2.trans HX2.out.2).stg m (m+3)).trans ⟨k2.mono fun i _ hi=> .inr (.inr (by omega)),fun _ h=> .inl h⟩
    refine ⟨HX2.out.1.kept k2 (by omega) (fun k hk e=> by
     have:=HAP.out k hk
     omega),hst,⟨k2.cell HJ2.out.box (by show m≠m+1;omega),k2.cell HJ2.out.cell (by show m+2≠m+1;omega),by rw [List.length_cons,qja];exact h1⟩,HE.out.stg hst HR.out hbm⟩)
   go_wp2_with (first
    | (at_lookup;refine wpList_lookup_own_unit _ rfl _ _ 171 rfl 9 172 qlk Tryz.underlying171 (hz _) (m+1) ks.length _ rfl HJ2.out.set _ _ rfl HKY.out ?_;rw [hhas])
    | (at_mapUpdate;refine wpList_mapUpdate_own _ rfl _ _ _ 171 rfl 9 172 qlk Tryz.underlying171 (unitElem (H:=Unit)) (m+1) ks.length _ rfl (HJ2.out.set.alloc _) (by unfold maxLen;omega) _ _ _ rfl rfl HKY.out _ [] unitElem_mk ?_;intro w3 hown3 hgrow3;have HX3:=Qh (HP.out w3 hown3 hgrow3);have c4:=HX3.out.2.2.1.box))
   clear c2 c3 c3a hz hhas;have HQ:=Qh (qga w3 b (s1.drop n) [58] v L d HX3.out.1)
   have hs1l:(s1.drop n).length≤s1.length:=by rw [List.length_drop];omega
   have hs3:=HX3.out.2.1.kept.size
   have HSG:=Qh (fun (w4:World) (v4:Value) (k:Stp w3 w4 b v v4)=> show StG w w4 b m (m+3) v v4∧JO m b (x::ks) w4∧RdEnv b w4 from
    ⟨HX3.out.2.1.trans (k.stg _ _),HX3.out.2.2.1.kept k.kept (fun i h1 h2 hk=> by
     rcases hk with hk | hk
     ·omega
     ·have:=HAP.out i hk
      omega),HX3.out.2.2.2.stp k HX3.out.1⟩)
   have hsl2:=qba (s1.drop n)
   generalize s1.drop n=u at*;cases hq:[58].isPrefixOf (skip u)with
   | false=>
    rw [hq,if_neg (by decide)]at HQ
    have HRES:Hid (RR= .err 3):=Qh (by
     rw [HN.out];cases hsk:skip u with
     | nil=> rfl
     | cons a r=>
      dsimp only
      rw [if_neg];rintro rfl;rw [hsk,qa7.2 ⟨r,rfl⟩]at hq
      cases hq)
    clear HN hq;refine HQ.out.mono ?_
    rintro e w4 ⟨rfl,HX4⟩;clear HQ;go_wp2_with fail;go_ret;show OnePost b m (m+3) (JO m b) ks v L d w RR _ _
    rw [HRES.out];exact ⟨rfl,by decide,_,v,_,_,HX4.out.1,(HSG.out w4 v HX4.out.2).1,Nat.le_refl _⟩
   | true=>
    rw [hq,if_pos rfl]at HQ
    obtain ⟨r,hr⟩:=qa7.1 hq
    have HRES:Hid (RR=valW (fun o2=> kids g o2 (d+1) (L.length+1) []) x d L.length r):=Qh (by rw [HN.out,hr];rfl)
    change Hid (Calls _ _ _ _ fun e w'=> _∧Hid (RSt w' b ((skip u).drop 1) v L d∧_))at HQ
    rw [hr,List.drop_one,List.tail_cons]at HQ
    rw [hr,List.length_cons]at hsl2
    have HVV:=Qh (fun w4 (h1:RSt w4 b r v L d) (h2:RdEnv b w4)=> HV.out w4 b r v L d x h1 h2 (by omega) (by omega) hL hd)
    have HKL:=Qh (fun k l q (h:valW (fun o2=> kids g o2 (d+1) (L.length+1) []) x d L.length r= .ok k l q)=> (qi2 h).2.1)
    clear HN hq hr;generalize valW (fun o2=> kids g o2 (d+1) (L.length+1) []) x d L.length r=R at*;refine HQ.out.mono ?_
    rintro e w4 ⟨rfl,HX4⟩;have c5:=(HSG.out w4 v HX4.out.2).2.1.box
    have HV4:=Qh (HVV.out w4 HX4.out.1 (HSG.out w4 v HX4.out.2).2.2)
    have HSG4:=Qh (fun w5 v5 (k:Stp w4 w5 b v v5)=> HSG.out w5 v5 (HX4.out.2.trans k))
    clear HQ HVV HSG HX4 c4;go_wp2_with fail;refine HV4.out.mono ?_
    intro e w5 hp;cases R with
    | ok k l q=>
     obtain ⟨rfl,v',P1,P2⟩:=hp
     have HG:=Qh (And.intro P1 (HSG4.out w5 v' P2))
     have HKK:=Qh (HKL.out k l q rfl)
     clear P1 P2 HV4 HSG4 HKL c5;go_wp2_with fail;go_ret;show OnePost b m (m+3) (JO m b) ks v L d w RR _ _
     rw [HRES.out];exact ⟨rfl,v',HG.out.1,HG.out.2.1,by rw [HKK.out];exact HG.out.2.2.1⟩
    | err c=>
     obtain ⟨rfl,hc,s',v',L',d',P1,P2,P3⟩:=hp
     have HG:=Qh (And.intro P1 (And.intro (HSG4.out w5 v' P2).1 P3))
     clear P1 P2 P3 HV4 HSG4 HKL c5;go_wp2_with fail;go_ret;show OnePost b m (m+3) (JO m b) ks v L d w RR _ _
     rw [HRES.out];exact ⟨rfl,hc,s',v',L',d',HG.out.1,HG.out.2.1,HG.out.2.2⟩
end Go.Proofs.YtgmangikcfakgaaGreatDoor
namespace Go.Proofs.YtgmangikcfakgaaGreatDoor
open Go.RowKit Go.Maps Go.WideMaps Sh Jt Js
def ContPost (b:Nat) (v:Value) (L:List V) (d:Nat) (w:World) (R:CR) (e:Ending) (w':World):Prop:=
 match R with
 | .ok t n l r=> e= .returned (.tuple #[.string (sb t), .int .i64 (n:Nat), .int .i64 0])∧∃v',RSt w' b r v' (L++l) d∧Stp w w' b v v'
 | .err c=> e= .returned (.tuple #[.string ⟨#[]⟩, .int .i64 0, .int .i64 (c:Nat)])∧c≠0∧∃s' v' L' d',RSt w' b s' v' L' d'∧Stp w w' b v v'∧L.length≤L'.length
theorem StG.stp {w w1 w2:World} {b lo hi:Nat} {v v':Value} (h:StG w1 w2 b lo hi v v') (hb:Below w.heap.size w w1) (hlo:w.heap.size≤lo):Stp w w2 b v v':=by
 refine ⟨⟨h.kept.os.trans hb.os,h.kept.tape.trans hb.tape,h.kept.output.trans hb.output,Nat.le_trans hb.size h.kept.size,fun i hi hn=> ?_⟩,fun i hi=> ?_⟩
 ·refine (h.kept.block i (Nat.lt_of_lt_of_le hi hb.size) (fun hh=> ?_)).trans (hb.block i hi)
  rcases hh with hh | hh | hh
  ·exact hn (.inl hh)
  ·exact hn (.inr hh)
  ·omega
 ·rcases h.fresh i hi with h2 | h2
  ·exact .inl h2
  ·exact .inr (Nat.le_trans hb.size h2)
theorem qqp {K:List UInt8→Res} {c:UInt8} {s t:List UInt8} {n:Nat} {l:List V} {r:List UInt8} (h:grpF K c s= .ok t n l r):t=[]:=by
 have inner:∀X:Res,toC X= .ok t n l r→t=[]:=fun X h=> by
  cases X with
  | err e=> cases h
  | ok n2 l2 r2=> injection h with h;exact h.symm
 unfold grpF at h
 split at h
 ·exact inner _ h
 ·split at h
  ·injection h with h
   exact h.symm
  ·exact inner _ h
theorem Stp.drewn {w w':World} {b n:Nat} {v v':Value} (h:Stp (w.drewN n) w' b v v'):Stp w w' b v v':=⟨⟨h.kept.os,h.kept.tape,h.kept.output,h.kept.size,h.kept.block⟩,h.fresh⟩
theorem qpz {B n:Nat} {w w':World} (h:Below B (w.drewN n) w'):Below B w w':=⟨h.os,h.tape,h.output,h.size,h.block⟩
theorem qac (w:World) (o:Obj):Below w.heap.size w (w.alloc o):=(Below.refl _ _).alloc (Nat.le_refl _) _
theorem qdb (w:World) (x:Value) (t:TypeId):(w.alloc (.cells #[x] t)).cell? ⟨w.heap.size,0,none⟩=some x:=(Row.new w t [x]).cell rfl
section
variable {w:World} {b:Nat} {u:List UInt8} {v:Value} {L:List V} {d:Nat}
theorem qrt (hR:RSt w b u v L d) (hs:u.length≤1000000000):
  Calls Tryz.prog 94 #[.pointer (some ⟨b,0,none⟩), .int .i64 3] w (ContPost b v L d w (numC u)):=by
 have hB:=qac w (.cells #[.pointer (some ⟨b,0,none⟩)] 84)
 have hc:=qdb w (.pointer (some ⟨b,0,none⟩)) 84
 have HN:=Qh (qxz _ b u v L d (hR.below hB) hs)
 have HS:=Qh (fun w2 (k:Stp (w.alloc (.cells #[.pointer (some ⟨b,0,none⟩)] 84)) w2 b v v)=> (k.stg (w.heap.size) (w.heap.size)).stp hB (Nat.le_refl _))
 have HR:=Qh hR
 clear hR hB
 unfold numV at HN
 unfold numC
 by_cases h0:numF u=0
 ·rw [if_pos h0,h0,List.drop_zero]at HN
  rw [if_pos h0];clear h0;go_enter Tryz.func94,Tryz.ntmps94
  go_wp2_with fail;refine HN.out.mono ?_
  rintro e w2 ⟨rfl,HX⟩;clear HN;go_wp2_with fail;go_ret3
  exact ⟨rfl,by decide,_,v,_,_,HX.out.1,HS.out w2 HX.out.2,Nat.le_refl _⟩
 ·rw [if_neg h0]at HN
  rw [if_neg h0];clear h0;generalize u.take (numF u)=t at*;generalize u.drop (numF u)=r at*;go_enter Tryz.func94,Tryz.ntmps94
  go_wp2_with fail;refine HN.out.mono ?_
  rintro e w2 ⟨rfl,HX⟩;clear HN;go_wp2_with fail;go_ret3
  exact ⟨rfl,v,by rw [List.append_nil];exact HX.out.1,HS.out w2 HX.out.2⟩
theorem qr0 (hR:RSt w b u v L d) (hE:RdEnv b w) (hs:u.length≤1000000000):
  Calls Tryz.prog 94 #[.pointer (some ⟨b,0,none⟩), .int .i64 4] w (ContPost b v L d w (strC u)):=by
 have hB:=qac w (.cells #[.pointer (some ⟨b,0,none⟩)] 84)
 have hc:=qdb w (.pointer (some ⟨b,0,none⟩)) 84
 have HN:=Qh (qso _ b u v L d (hR.below hB) hs (hE.err.below hB))
 have HS:=Qh (fun w2 (k:Stp (w.alloc (.cells #[.pointer (some ⟨b,0,none⟩)] 84)) w2 b v v)=> (k.stg (w.heap.size) (w.heap.size)).stp hB (Nat.le_refl _))
 clear hR hB hE
 unfold textV textR at HN
 unfold strC
 cases hu:unqF u with
 | none=>
  rw [hu]at HN
  dsimp only at HN
  dsimp only
  clear hu;go_enter Tryz.func94,Tryz.ntmps94
  go_wp2_with fail;refine HN.out.mono ?_
  rintro e w2 ⟨rfl,HX⟩;clear HN;go_wp2_with fail;go_ret3
  exact ⟨rfl,by decide,_,v,_,_,HX.out.1,HS.out w2 HX.out.2,Nat.le_refl _⟩
 | some p=>
  rw [hu]at HN
  dsimp only at HN
  dsimp only
  clear hu;obtain ⟨t,n⟩:=p
  dsimp only at HN
  dsimp only
  generalize u.drop n=r at*;go_enter Tryz.func94,Tryz.ntmps94
  go_wp2_with fail;refine HN.out.mono ?_
  rintro e w2 ⟨rfl,HX⟩;clear HN;go_wp2_with fail;go_ret3
  exact ⟨rfl,v,by rw [List.append_nil];exact HX.out.1,HS.out w2 HX.out.2⟩
theorem qog (F:Nat) (hV:∀g,g < F→ValP g) (a:UInt8) (s:List UInt8) (hR:RSt w b (a::s) v L d) (hE:RdEnv b w) (ha:a=91) (hf:s.length+1≤F) (hs:s.length≤999999999) (hL:L.length≤5000) (hd:d < 50):
  Calls Tryz.prog 94 #[.pointer (some ⟨b,0,none⟩), .int .i64 5] w (ContPost b v L d w (grpF (kids F false (d+1) L.length []) 93 s)):=by
 subst ha
 have hB:=qac w (.cells #[.pointer (some ⟨b,0,none⟩)] 84)
 have hc:=qdb w (.pointer (some ⟨b,0,none⟩)) 84
 have hbl:=hR.lt
 have HG:=Qh (qqi _ b w.heap.size (w.heap.size+1) (JL w.heap.size b) false F _ _ (qs7 w.heap.size b F hV) 91 s v L d (hR.below hB) (hE.below hB) hc rfl hbl (fun k hk=> .inl (hR.own.block hk).2) (by simp) hf hs hL hd)
 have HS:=Qh (fun w2 v2 (k:StG (w.alloc (.cells #[.pointer (some ⟨b,0,none⟩)] 84)) w2 b w.heap.size (w.heap.size+1) v v2)=> k.stp hB (Nat.le_refl _))
 clear hR hB hE hV
 change Hid (Calls _ _ #[_, .string ⟨#[91]⟩, .string ⟨#[93]⟩,_] _ (GrpPost _ _ _ _ _ _ _ (grpF (kids F false (d+1) L.length []) 93 s)))at HG
 have HT:=Qh (fun t n l r=> qqp (t:=t) (n:=n) (l:=l) (r:=r) (K:=kids F false (d+1) L.length []) (c:=93) (s:=s))
 generalize grpF (kids F false (d+1) L.length []) 93 s=R at*
 go_enter Tryz.func94,Tryz.ntmps94
 go_wp2_with fail
 refine HG.out.mono ?_
 intro e w2 hp
 cases R with
 | ok t n l r=>
  obtain ⟨rfl,v',P1,P2⟩:=hp
  have HX:=Qh (And.intro P1 (HS.out w2 v' P2))
  clear P1 P2 HG HS;go_wp2_with fail;go_ret3
  obtain rfl:=HT.out t n l r rfl
  exact ⟨rfl,v',HX.out.1,HX.out.2⟩
 | err c=>
  obtain ⟨rfl,hc,s',v',L',d',P1,P2,P3⟩:=hp
  have HX:=Qh (And.intro P1 (And.intro (HS.out w2 v' P2) P3))
  clear P1 P2 P3 HG HS;go_wp2_with fail;go_ret3
  exact ⟨rfl,hc,s',v',L',d',HX.out.1,HX.out.2.1,HX.out.2.2⟩
theorem qpl (k:Int) (hk:k=0∨k=1∨k=2) (hR:RSt w b u v L d) (hE:RdEnv b w) (hu:skip u=u):
  Calls Tryz.prog 94 #[.pointer (some ⟨b,0,none⟩), .int .i64 k] w (ContPost b v L d w (wordC k u)):=by
 have hB:=qac w (.cells #[.pointer (some ⟨b,0,none⟩)] 84)
 have hc:=qdb w (.pointer (some ⟨b,0,none⟩)) 84
 have HS:=Qh (fun w2 (k:Stp (w.alloc (.cells #[.pointer (some ⟨b,0,none⟩)] 84)) w2 b v v)=> (k.stg (w.heap.size) (w.heap.size)).stp hB (Nat.le_refl _))
 have HN:=Qh (fun (n:Nat)=> qga ((w.alloc (.cells #[.pointer (some ⟨b,0,none⟩)] 84)).drewN n) b u (wordN k) v L d ⟨(hR.below hB).row,(hR.below hB).own⟩)
 have hw:(w.alloc (.cells #[.pointer (some ⟨b,0,none⟩)] 84)).cell? ⟨0,k.toNat,none⟩=some (.string (sb (wordN k))):=by
  rcases hk with rfl | rfl | rfl
  ·exact (qad hB).cell hE.w0 (fun h=> h)
  ·exact (qad hB).cell hE.w1 (fun h=> h)
  ·exact (qad hB).cell hE.w2 (fun h=> h)
 rw [hu]at HN
 clear hB hR hE hu
 unfold wordC
 rcases hk with rfl | rfl | rfl
 ·have hw1:(w.alloc (.cells #[.pointer (some ⟨b,0,none⟩)] 84)).cell? ⟨0,0,none⟩=some (.string (sb (wordN 0))):=hw
  clear hw;generalize wordN 0=p at*;cases hq:p.isPrefixOf u with
  | true=>
   rw [hq,if_pos rfl]at HN
   rw [if_pos rfl];clear hq;generalize u.drop p.length=r at*;go_enter Tryz.func94,Tryz.ntmps94
   go_wp2_with fail;have HN1:=Qh (HN.out 1)
   clear HN;generalize w.alloc (.cells #[.pointer (some ⟨b,0,none⟩)] 84)=wa at*;generalize w.heap.size=B at*;go_still_tail 4,(by kernel_rfl)
   change wpList _ _ _ _ _ (wa.drewN 1)
   generalize hW:wa.drewN 1=w1 at*;go_wp2_with fail;refine HN1.out.mono ?_
   rintro e w2 ⟨rfl,HX⟩;subst hW;clear HN1;go_wp2_with fail;go_ret3
   exact ⟨rfl,v,by rw [List.append_nil];exact HX.out.1,HS.out _ HX.out.2.drewn⟩
  | false=>
   rw [hq,if_neg (by decide)]at HN
   rw [if_neg (by decide)];clear hq;go_enter Tryz.func94,Tryz.ntmps94
   go_wp2_with fail;have HN1:=Qh (HN.out 1)
   clear HN;generalize w.alloc (.cells #[.pointer (some ⟨b,0,none⟩)] 84)=wa at*;generalize w.heap.size=B at*;go_still_tail 4,(by kernel_rfl)
   change wpList _ _ _ _ _ (wa.drewN 1)
   generalize hW:wa.drewN 1=w1 at*;go_wp2_with fail;refine HN1.out.mono ?_
   rintro e w2 ⟨rfl,HX⟩;subst hW;clear HN1;go_wp2_with fail;go_ret3
   exact ⟨rfl,by decide,_,v,_,_,HX.out.1,HS.out _ HX.out.2.drewn,Nat.le_refl _⟩
 ·have hw1:(w.alloc (.cells #[.pointer (some ⟨b,0,none⟩)] 84)).cell? ⟨0,1,none⟩=some (.string (sb (wordN 1))):=hw
  clear hw;generalize wordN 1=p at*;cases hq:p.isPrefixOf u with
  | true=>
   rw [hq,if_pos rfl]at HN
   rw [if_pos rfl];clear hq;generalize u.drop p.length=r at*;go_enter Tryz.func94,Tryz.ntmps94
   go_wp2_with fail;have HN1:=Qh (HN.out 1)
   clear HN;generalize w.alloc (.cells #[.pointer (some ⟨b,0,none⟩)] 84)=wa at*;generalize w.heap.size=B at*;go_still_tail 4,(by kernel_rfl)
   change wpList _ _ _ _ _ (wa.drewN 1)
   generalize hW:wa.drewN 1=w1 at*;go_wp2_with fail;refine HN1.out.mono ?_
   rintro e w2 ⟨rfl,HX⟩;subst hW;clear HN1;go_wp2_with fail;go_ret3
   exact ⟨rfl,v,by rw [List.append_nil];exact HX.out.1,HS.out _ HX.out.2.drewn⟩
  | false=>
   rw [hq,if_neg (by decide)]at HN
   rw [if_neg (by decide)];clear hq;go_enter Tryz.func94,Tryz.ntmps94
   go_wp2_with fail;have HN1:=Qh (HN.out 1)
   clear HN;generalize w.alloc (.cells #[.pointer (some ⟨b,0,none⟩)] 84)=wa at*;generalize w.heap.size=B at*;go_still_tail 4,(by kernel_rfl)
   change wpList _ _ _ _ _ (wa.drewN 1)
   generalize hW:wa.drewN 1=w1 at*;go_wp2_with fail;refine HN1.out.mono ?_
   rintro e w2 ⟨rfl,HX⟩;subst hW;clear HN1;go_wp2_with fail;go_ret3
   exact ⟨rfl,by decide,_,v,_,_,HX.out.1,HS.out _ HX.out.2.drewn,Nat.le_refl _⟩
 ·have hw1:(w.alloc (.cells #[.pointer (some ⟨b,0,none⟩)] 84)).cell? ⟨0,2,none⟩=some (.string (sb (wordN 2))):=hw
  clear hw;generalize wordN 2=p at*;cases hq:p.isPrefixOf u with
  | true=>
   rw [hq,if_pos rfl]at HN
   rw [if_pos rfl];clear hq;generalize u.drop p.length=r at*;go_enter Tryz.func94,Tryz.ntmps94
   go_wp2_with fail;have HN1:=Qh (HN.out 1)
   clear HN;generalize w.alloc (.cells #[.pointer (some ⟨b,0,none⟩)] 84)=wa at*;generalize w.heap.size=B at*;go_still_tail 4,(by kernel_rfl)
   change wpList _ _ _ _ _ (wa.drewN 1)
   generalize hW:wa.drewN 1=w1 at*;go_wp2_with fail;refine HN1.out.mono ?_
   rintro e w2 ⟨rfl,HX⟩;subst hW;clear HN1;go_wp2_with fail;go_ret3
   exact ⟨rfl,v,by rw [List.append_nil];exact HX.out.1,HS.out _ HX.out.2.drewn⟩
  | false=>
   rw [hq,if_neg (by decide)]at HN
   rw [if_neg (by decide)];clear hq;go_enter Tryz.func94,Tryz.ntmps94
   go_wp2_with fail;have HN1:=Qh (HN.out 1)
   clear HN;generalize w.alloc (.cells #[.pointer (some ⟨b,0,none⟩)] 84)=wa at*;generalize w.heap.size=B at*;go_still_tail 4,(by kernel_rfl)
   change wpList _ _ _ _ _ (wa.drewN 1)
   generalize hW:wa.drewN 1=w1 at*;go_wp2_with fail;refine HN1.out.mono ?_
   rintro e w2 ⟨rfl,HX⟩;subst hW;clear HN1;go_wp2_with fail;go_ret3
   exact ⟨rfl,by decide,_,v,_,_,HX.out.1,HS.out _ HX.out.2.drewn,Nat.le_refl _⟩
theorem qu9 (w:World) (b:Nat):Calls Tryz.prog 131 #[.pointer (some ⟨b,0,none⟩)] w fun e w'=>
  e= .returned (.func (.func 167) #[] #[.pointer (some ⟨w.heap.size,0,none⟩), .pointer (some ⟨w.heap.size+2,0,none⟩)])∧Hid (Below w.heap.size w w'∧JO w.heap.size b [] w'∧w'.heap.size=w.heap.size+3):=by
 have hmm:∀W,(Instr.makeMap 171 none).run Tryz.prog W= .ok (.map (some W.heap.size)) (W.alloc (.map #[] 0)):=fun W=> by simp [Instr.makeMap,Result.andThen]
 have hmf:∀(fn:Fn) (first cap:Array Value) (w:World),(Instr.makeFunc fn first cap).run Tryz.prog w= .ok (.func fn first cap) w:=fun _ _ _ _=> rfl
 go_enter Tryz.func131,Tryz.ntmps131
 go_wp2_with fail
 go_ret
 have h1:(w.alloc (.cells #[.pointer (some ⟨b,0,none⟩)] 84)).heap.size=w.heap.size+1:=by simp
 refine ⟨rfl,Qh ⟨(qac w _).trans (((Below.refl _ _).alloc (by simp) _).alloc (by simp;omega) _),⟨?_, ?_, ?_⟩,by simp⟩⟩
 ·exact (qgm _ _).cell ((qgm _ _).cell (qdb w _ _) (fun h=> h)) (fun h=> h)
 ·have:=qdb ((w.alloc (.cells #[.pointer (some ⟨b,0,none⟩)] 84)).alloc (.map #[] 0)) (.map (some (w.heap.size+1))) 171
  simpa using this
 ·have:=World.ownsMap_made (w.alloc (.cells #[.pointer (some ⟨b,0,none⟩)] 84)) Tryz.prog 9 (unitElem (H:=Unit))
  rw [h1]at this
  exact this.alloc _
theorem qrq (F:Nat) (hV:∀g,g < F→ValP g) (a:UInt8) (s:List UInt8) (hR:RSt w b (a::s) v L d) (hE:RdEnv b w) (ha:a=123) (hf:s.length+1≤F) (hs:s.length≤999999999) (hL:L.length≤5000) (hd:d < 50):
  Calls Tryz.prog 94 #[.pointer (some ⟨b,0,none⟩), .int .i64 6] w (ContPost b v L d w (grpF (kids F true (d+1) L.length []) 125 s)):=by
 subst ha
 have hB:=qac w (.cells #[.pointer (some ⟨b,0,none⟩)] 84)
 have hc:=qdb w (.pointer (some ⟨b,0,none⟩)) 84
 have hbl:=hR.lt
 have hsz:(w.alloc (.cells #[.pointer (some ⟨b,0,none⟩)] 84)).heap.size=w.heap.size+1:=by simp
 have hR1:=hR.below hB
 have hE1:=hE.below hB
 have hown:=hR1.own
 have HT:=Qh (fun t n l r=> qqp (t:=t) (n:=n) (l:=l) (r:=r) (K:=kids F true (d+1) L.length []) (c:=125) (s:=s))
 have HBB:=Qh hB
 have HOW:=Qh (fun k hk=> (hR.own.block (k:=k) hk).2)
 generalize hwa:w.alloc (.cells #[.pointer (some ⟨b,0,none⟩)] 84)=wa at*
 have HWA:=Qh hwa
 clear hwa
 have HM:=Qh (show Calls Tryz.prog 131 #[.pointer (some ⟨b,0,none⟩)] (wa.drewN 1) fun e w'=>
   e= .returned (.func (.func 167) #[] #[.pointer (some ⟨wa.heap.size,0,none⟩), .pointer (some ⟨wa.heap.size+2,0,none⟩)])∧Hid (Below wa.heap.size wa w'∧JO wa.heap.size b [] w'∧w'.heap.size=wa.heap.size+3)from
  (qu9 (wa.drewN 1) b).mono fun _ _ h=> ⟨h.1,Qh ⟨qpz h.2.out.1,h.2.out.2.1,h.2.out.2.2⟩⟩)
 have HCL:=Qh (fun w2 (hx:Below wa.heap.size wa w2∧JO wa.heap.size b [] w2∧w2.heap.size=wa.heap.size+3)=> (qad hx.1).cell hc (fun h=> h))
 have HG:=Qh (fun w2 (hx:Below wa.heap.size wa w2∧JO wa.heap.size b [] w2∧w2.heap.size=wa.heap.size+3)=> qqi w2 b wa.heap.size (wa.heap.size+3) (JO wa.heap.size b) true F _ _ (qo6 wa.heap.size b F (by omega) hV) 123 s v L d (hR1.below hx.1) (hE1.below hx.1) hx.2.1 rfl (by omega) (fun k hk=> .inl (hR1.own.block hk).2) (by omega) hf hs hL hd)
 clear hR hR1 hE1 hE hV hown hB
 have HST:=Qh (fun w2 w3 v3 (hx:Below wa.heap.size wa w2∧JO wa.heap.size b [] w2∧w2.heap.size=wa.heap.size+3) (k:StG w2 w3 b wa.heap.size (wa.heap.size+3) v v3)=> show Stp w w3 b v v3∧w3.cell? ⟨w.heap.size,0,none⟩=some (.pointer (some ⟨b,0,none⟩))from
  ⟨k.stp (HBB.out.trans (hx.1.mono HBB.out.size)) (by omega),k.kept.cell ((qad hx.1).cell hc (fun h=> h)) (fun hk=> by
   rcases hk with hk | hk | hk
   ·have:w.heap.size=b:=hk
    omega
   ·have:=HOW.out w.heap.size hk
    omega
   ·have:wa.heap.size≤w.heap.size:=hk.1
    omega)⟩)
 change Hid (∀w2,_→Calls _ _ #[_, .string ⟨#[123]⟩, .string ⟨#[125]⟩,_] _ (GrpPost _ _ _ _ _ _ _ (grpF (kids F true (d+1) L.length []) 125 s)))at HG
 generalize grpF (kids F true (d+1) L.length []) 125 s=R at*
 cases R with
 | ok t n l r=>
  obtain rfl:=HT.out t n l r rfl
  clear HT HBB HOW hsz;go_enter Tryz.func94,Tryz.ntmps94
  go_upto_region 11 with fail;rw [HWA.out];generalize w.heap.size=B at*;go_region_held3 (fun x=> x.cell? ⟨B,0,none⟩=some (.pointer (some ⟨b,0,none⟩))) (first | exact hc | exact HY | exact HZ.out.2) (first | (go_at_call 131;refine HM.out.mono ?_;rintro e w2 ⟨rfl,HX2⟩;have HY:=HCL.out w2 HX2.out) | (go_at_call 129;refine (HG.out w2 HX2.out).mono ?_;rintro e w3 ⟨rfl,v',P1,P2⟩;have HZ:=Qh (HST.out w2 w3 v' HX2.out P2)))
  go_wp2_with fail;go_ret3
  exact ⟨rfl,v',P1,HZ.out.1⟩
 | err c=>
  clear HT HBB HOW hsz;go_enter Tryz.func94,Tryz.ntmps94
  go_upto_region 11 with fail;rw [HWA.out];generalize w.heap.size=B at*;go_region_held3 (fun x=> x.cell? ⟨B,0,none⟩=some (.pointer (some ⟨b,0,none⟩))) (first | exact hc | exact HY | exact HZ.out.2) (first | (go_at_call 131;refine HM.out.mono ?_;rintro e w2 ⟨rfl,HX2⟩;have HY:=HCL.out w2 HX2.out) | (go_at_call 129;refine (HG.out w2 HX2.out).mono ?_;rintro e w3 ⟨rfl,hc0,s',v',L',d',P1,P2,P3⟩;have HZ:=Qh (HST.out w2 w3 v' HX2.out P2)))
  go_wp2_with fail;go_ret3
  exact ⟨rfl,hc0,s',v',L',d',P1,HZ.out.1,P3⟩
end
end Go.Proofs.YtgmangikcfakgaaGreatDoor
namespace Go.Proofs.YtgmangikcfakgaaGreatDoor
open Go.RowKit Go.Maps Go.WideMaps Sh Jt Js
theorem qdm {ops:Array Oper} {rest:List Oper} {o:Oper} {a:Act} {w:World} {Q:Exit→Act→World→Prop} (hg:o.guard=none) (x:Operand) (ho:o.op= .buildSlice 26 1 #[(0,x)]) (k:Int) (s1 s2:ByteArray) (n:Int) (hx:a.eval x= .agg #[.int .i64 k, .string s1, .string s2, .int .i64 n])
  (h:wpList Tryz.prog ops Q rest (a.put o.dst (.slice (some ⟨w.heap.size,0,none⟩) 1 1)) (w.alloc (.cells #[.int .i64 k, .string s1, .string s2, .int .i64 n] 72))):wpList Tryz.prog ops Q (o::rest) a w:=by
 obtain ⟨i,hi,hz,hsz,_⟩:=qc0
 refine wpList_buildSlice hg 26 72 1 #[(0,x)] ho #[.int .i64 k, .string s1, .string s2, .int .i64 n] i _ Tryz.underlying26 hi hz (by rw [hsz];decide) (by rw [hsz];decide) ?_ h
 rw [hsz]
 have e:(Array.map (fun (p:Nat×Operand)=> (p.1,a.eval p.2)) #[(0,x)]).toList=[(0, .agg #[.int .i64 k, .string s1, .string s2, .int .i64 n])]:=by simp [hx]
 show Instr.fill _ _ (Array.map (fun (p:Nat×Operand)=> (p.1,a.eval p.2)) #[(0,x)]).toList=_
 rw [e,show Array.range (1*4)=#[0,1,2,3]from by decide]
 simp [Instr.fill,Value.cells]
section
variable {w w':World} {b:Nat} {s:List UInt8} {v v':Value} {L L':List V} {d:Int}
theorem RSt.grow (h:RSt w b s v L d) (o:Obj) (own:OwnVals w' (b+1) v' L') (k:Kept (w.alloc o) w' (fun k=> b+1≤k∧v.ownBlock=some k)) (f:∀k,v'.ownBlock=some k→v.ownBlock=some k∨(w.alloc o).heap.size≤k):
  RSt (w'.setCell ⟨b,1,none⟩ v') b s v' L' d∧Stp w (w'.setCell ⟨b,1,none⟩ v') b v v':=by
 have h1:=h.below (qac w o)
 have r1:Row w' b 86 [.string (sb s),v, .int .i64 d]:=k.row h1.row (fun hk=> by omega)
 have hs:w.heap.size≤(w.alloc o).heap.size:=(qac w o).size
 have k2:Kept w w' (fun k=> k=b∨v.ownBlock=some k):=⟨k.os,k.tape,k.output,Nat.le_trans hs k.size,fun i hi hn=> (k.block i (Nat.lt_of_lt_of_le hi hs) (fun hk=> hn (.inr hk.2))).trans ((qac w o).block i hi)⟩
 refine ⟨⟨r1.set 1 _,own.kept ((Kept.refl w' (·=b)).setCell (a:=⟨b,1,none⟩) (.inr rfl) _) (fun i hi e=> by
  have:=(own.block hi).1
  omega)⟩,⟨k2.setCell (a:=⟨b,1,none⟩) (.inr (.inl rfl)) _,fun i hi=> ?_⟩⟩
 rcases f i hi with h2 | h2
 ·exact .inl h2
 ·exact .inr (Nat.le_trans hs h2)
theorem RSt.slot (h:RSt w b s v L d) (o:Obj) (k:Kept (w.alloc o) w' (fun k=> b+1≤k∧v.ownBlock=some k)):w'.cell? ⟨b,1,none⟩=some v∧w'.frozen? ⟨b,1,none⟩=false:=by
 have r1:Row w' b 86 [.string (sb s),v, .int .i64 d]:=k.row (h.below (qac w o)).row (fun hk=> by omega)
 exact ⟨r1.cell rfl,r1.frozen 1⟩
theorem RSt.fill {g n c:Nat} (h:RSt w b s (.slice (some ⟨g,0,none⟩) n c) L d) {i:Nat} (hi:i < L.length) (t:List UInt8) (z:Int):
  RSt ((w.setCell ⟨g,i*4+2,none⟩ (.string (sb t))).setCell ⟨g,i*4+3,none⟩ (.int .i64 z)) b s (.slice (some ⟨g,0,none⟩) n c) (L.set i ⟨L[i].kind,L[i].key,t,z⟩) d∧
   Stp w ((w.setCell ⟨g,i*4+2,none⟩ (.string (sb t))).setCell ⟨g,i*4+3,none⟩ (.int .i64 z)) b (.slice (some ⟨g,0,none⟩) n c) (.slice (some ⟨g,0,none⟩) n c):=by
 have hg:=(h.own.block (k:=g) rfl).1
 have o1:=h.own.set (i:=i) (j:=2) hi (by decide) (x:= .string (sb t)) (v:=⟨L[i].kind,L[i].key,t,L[i].count⟩) rfl
 have o2:=o1.set (i:=i) (j:=3) (by rw [List.length_set];exact hi) (by decide) (x:= .int .i64 z) (v:=⟨L[i].kind,L[i].key,t,z⟩) (by rw [List.getElem_set_self];rfl)
 rw [List.set_set]at o2
 refine ⟨⟨(h.row.other (a:=⟨g,i*4+2,none⟩) (by show b≠g;omega) _).other (a:=⟨g,i*4+3,none⟩) (by show b≠g;omega) _,o2⟩,⟨((Kept.refl _ _).setCell (a:=⟨g,i*4+2,none⟩) (.inr (.inr rfl)) _).setCell (a:=⟨g,i*4+3,none⟩) (.inr (.inr rfl)) _,fun _ h=> .inl h⟩⟩
end
theorem qur (g:Nat) (hV:∀g',g' < g→ValP g') (w:World) (b:Nat) (u:List UInt8) (v:Value) (L:List V) (d:Nat) (k:Int) (hR:RSt w b u v L d) (hE:RdEnv b w) (hk:kindF u=some k) (hu:skip u=u) (hf:u.length≤g) (hs:u.length≤1000000000) (hL:L.length≤5000) (hd:d < 50):
  Calls Tryz.prog 94 #[.pointer (some ⟨b,0,none⟩), .int .i64 k] w (ContPost b v L d w (Js.contF (fun o2=> kids g o2 (d+1) L.length []) k u)):=by
 match u with
 | []=> cases hk
 | a::r=>
  rw [List.length_cons]at hf hs
  have hk:kindN (n8 a)=some k:=hk
  unfold Js.contF;by_cases h3:k=3
  ·subst h3
   exact qrt hR (by rw [List.length_cons];exact hs)
  rw [if_neg h3];by_cases h4:k=4
  ·subst h4
   exact qr0 hR hE (by rw [List.length_cons];exact hs)
  rw [if_neg h4];by_cases h5:k=5
  ·subst h5
   have ha:a=91:=n8_is (c:=91) (by
    unfold kindN at hk;repeat' split at hk
    all_goals first | (cases hk;done) | assumption | (injection hk with hk;omega))
   exact qog g hV a r hR hE ha hf (by omega) hL hd
  rw [if_neg h5];by_cases h6:k=6
  ·subst h6
   have ha:a=123:=n8_is (c:=123) (by
    unfold kindN at hk;repeat' split at hk
    all_goals first | (cases hk;done) | assumption | (injection hk with hk;omega))
   exact qrq g hV a r hR hE ha hf (by omega) hL hd
  rw [if_neg h6];refine qpl k ?_ hR hE hu
  unfold kindN at hk;repeat' split at hk
  all_goals first | (cases hk;done) | (injection hk with hk;omega)
theorem q1o (L l:List V) (v0:V) (h:L.length < (L++[v0]++l).length):(L++[v0]++l)[L.length]=v0:=by simp
theorem q19 (L l:List V) (v0 v1:V):(L++[v0]++l).set L.length v1=L++v1::l:=by
 rw [List.append_assoc,List.set_append_right _ _ (Nat.le_refl _),Nat.sub_self]
 rfl
theorem qfv (w:World):Below w.heap.size w w.drew:=qaa (Below.refl _ _) 1
theorem qzb:∀g,ValP g:=by
 intro g
 induction g using Nat.strongRecOn with
 | ind g ih=>
  intro w b s v L d key hR hE hs hs2 hL hd;rw [qk2];have HK:=Qh (q1j w b s v L d hR)
  have HE:=Qh (fun w1 (k:Stp w w1 b v v)=> hE.stp k hR)
  have hul:=qba s
  have hus:=qa3 s
  generalize skip s=u at*;have hd0:(0:Int)≤(d:Int):=by omega
  have hd5:(d:Int)≤50:=by omega
  have hl0:(0:Int)≤(L.length:Int):=by omega
  have hl5:(L.length:Int)≤5000:=by omega
  cases hk:kindF u with
  | none=>
   rw [hk]at HK
   unfold kindV at HK;unfold valR;clear hE hR hk hus;go_enter Tryz.func59,Tryz.ntmps59
   go_wp2_with fail;refine HK.out.mono ?_
   rintro e w1 ⟨rfl,HX⟩;clear HK HE;go_wp2_with fail;go_ret;exact ⟨rfl,by decide,_,v,_,_,HX.out.1,HX.out.2,Nat.le_refl _⟩
  | some k=>
   rw [hk]at HK
   unfold kindV at HK;unfold valR;dsimp only
   have HC:=Qh (fun w1 (h:RSt w1 b u v L d)=> h.cells)
   have HW:=Qh (fun w1 (h:RSt w1 b u v L d)=> h.own.vals)
   clear hE hR;by_cases hfull:50≤d∨5000≤L.length
   ·rw [if_pos hfull]
    clear hk hus;by_cases h50:d=50
    ·have h50':(d:Int)=50:=by omega
     clear hfull;go_enter Tryz.func59,Tryz.ntmps59
     go_wp2_with fail;refine HK.out.mono ?_
     rintro e w1 ⟨rfl,HX⟩;obtain ⟨_,c1,c2⟩:=HC.out w1 HX.out.1
     clear HK HE HC HW;rw [h50']at c2
     go_wp2_with fail;go_ret;exact ⟨rfl,by decide,_,v,_,_,HX.out.1,HX.out.2,Nat.le_refl _⟩
    ·have h50':¬(d:Int)=50:=by omega
     have hlen:(L.length:Int)=5000:=by omega
     clear hfull h50;go_enter Tryz.func59,Tryz.ntmps59
     go_wp2_with fail;refine HK.out.mono ?_
     rintro e w1 ⟨rfl,HX⟩;obtain ⟨_,c1,c2⟩:=HC.out w1 HX.out.1
     obtain ⟨A,c,rfl,_⟩:=HW.out w1 HX.out.1
     clear HK HE HC HW;go_wp2_with fail;go_ret;exact ⟨rfl,by decide,_,_,_,_,HX.out.1,HX.out.2,Nat.le_refl _⟩
   ·rw [if_neg hfull]
    have h50':¬(d:Int)=50:=by omega
    have hlen:¬(L.length:Int)=5000:=by omega
    have hb1:((d:Int)==50)=false:=beq_eq_false_iff_ne.2 h50'
    have hb2:((L.length:Int)==5000)=false:=beq_eq_false_iff_ne.2 hlen
    have hll:(L++[(⟨k,key,[],0⟩:V)]).length=L.length+1:=by rw [List.length_append,List.length_singleton]
    have HCN:=Qh (fun w2 v2 (h1:RSt w2 b u v2 (L++[⟨k,key,[],0⟩]) d) (h2:RdEnv b w2)=> qur g (fun gg hgg=> ih gg hgg) w2 b u v2 (L++[⟨k,key,[],0⟩]) d k h1 h2 hk hus (by omega) (by omega) (by omega) (by omega))
    rw [hll]at HCN
    clear ih hk hus hfull;generalize Js.contF (fun o2=> kids g o2 (d+1) (L.length+1) []) k u=R at*;go_enter Tryz.func59,Tryz.ntmps59
    go_wp2_with fail;refine HK.out.mono ?_
    rintro e w1 ⟨rfl,HX⟩;obtain ⟨_,c1,c2⟩:=HC.out w1 HX.out.1
    have HOW:=Qh HX.out.1.own
    obtain ⟨A,c,rfl,_⟩:=HW.out w1 HX.out.1
    have hbw:=HX.out.1.lt
    clear HK HC HW;have hf1:=HX.out.1.row.frozen 1
    have HVA:Hid (ValsAt (w1.alloc (.cells #[.int .i64 k, .string (sb key), .string ⟨#[]⟩, .int .i64 0] 72)) (some ⟨w1.heap.size,0,none⟩) 1 1 [⟨k,key,[],0⟩]):=Qh (ValsAt.lay (Row.new w1 72 (cellsV [⟨k,key,[],0⟩])) 1 rfl)
    go_upto_region 7 with fail;go_wp2_with (first
     | (with_reducible refine qdm rfl _ rfl k (sb key) ⟨#[]⟩ 0 rfl ?_)
     | (at_builtin;go_must (with_reducible refine qa6 rfl _ _ rfl (b+1) (.slice A L.length c) L rfl (HOW.out.below (qac w1 _)) ⟨w1.heap.size,0,none⟩ 1 1 [⟨k,key,[],0⟩] rfl HVA.out (by omega) (by simp;omega) ?_;intro v2 w2 h1 h2 h3;obtain ⟨g2,n2,rfl, -⟩:=h1.out.got (by rw [hll];omega);rw [hll]at h1 h3;obtain ⟨hc2,hf2⟩:=HX.out.1.slot _ h2.out;have HGR:=Qh (HX.out.1.grow _ h1.out h2.out h3.out);clear h1 h2 h3)))
    have HGC:=Qh (HCN.out _ _ HGR.out.1 (RdEnv.stp (HE.out _ HX.out.2) HGR.out.2 HX.out.1))
    have HST:=Qh (HX.out.2.trans HGR.out.2)
    clear HCN HGR HVA HOW HX HE hc2 hf2 c1 c2 hf1 hb1 hb2 hlen h50' hbw;generalize w2.setCell {block:=b,off:=1} (Value.slice (some {block:=g2,off:=0}) (L.length+1) n2)=w3 at*;refine HGC.out.mono ?_
    intro e w4 hp;cases R with
    | ok t n l r=>
     obtain ⟨rfl,v4,P1,P2⟩:=hp
     obtain ⟨g4,n4,rfl, -⟩:=P1.own.got (by rw [List.length_append,hll];omega)
     have hl4:(L++[(⟨k,key,[],0⟩:V)]++l).length=L.length+1+l.length:=by rw [List.length_append,hll]
     rw [hl4]at P1 P2
     have hi:L.length < (L++[(⟨k,key,[],0⟩:V)]++l).length:=by rw [hl4];omega
     obtain ⟨e1,e2,e3,e4⟩:=(P1.own.at_).1.cells hi
     have hfz:=fun i=> P1.own.unfrozen i
     have f1:=hfz (L.length*4+2)
     have f2:=hfz (L.length*4+3)
     obtain ⟨_,c1,_⟩:=P1.cells
     have hF:=P1.fill hi t n
     rw [q19,q1o]at hF
     have HF:=Qh hF
     clear hF;have HS2:=Qh (HST.out.trans P2)
     have hlt:(L.length:Int) < (L.length:Int)+1+(l.length:Int):=by omega
     rw [Nat.zero_add]at e3 e4
     obtain ⟨x3,e5⟩:∃x,w4.cell? ⟨g4,L.length*4+2,none⟩=some x:=⟨_,e3⟩
     obtain ⟨x4,e6⟩:∃x,w4.cell? ⟨g4,L.length*4+3,none⟩=some x:=⟨_,e4⟩
     clear P1 P2 HGC hfz e1 e2 e3 e4 HST hll hl4;go_upto_region 9 with fail;go_region
     go_wp2_with fail;go_ret;exact ⟨rfl,_,HF.out.1.below (qfv _),(HS2.out.trans HF.out.2).trans (Stp.of_below (qfv _) _ _)⟩
    | err ec=>
     obtain ⟨rfl,hec,s4,v4,L4,d4,P1,P2,P3⟩:=hp
     rw [hll]at P3
     obtain ⟨g4,n4,rfl, -⟩:=P1.own.got (by omega)
     have hi:L.length < L4.length:=by omega
     obtain ⟨e1,e2,e3,e4⟩:=(P1.own.at_).1.cells hi
     have hfz:=fun i=> P1.own.unfrozen i
     have f1:=hfz (L.length*4+2)
     have f2:=hfz (L.length*4+3)
     obtain ⟨_,c1,_⟩:=P1.cells
     have HF:=Qh (P1.fill hi [] 0)
     have HS2:=Qh (HST.out.trans P2)
     have HLE:=Qh hi
     have hlt:(L.length:Int) < (L4.length:Int):=by omega
     rw [Nat.zero_add]at e3 e4
     obtain ⟨x3,e5⟩:∃x,w4.cell? ⟨g4,L.length*4+2,none⟩=some x:=⟨_,e3⟩
     obtain ⟨x4,e6⟩:∃x,w4.cell? ⟨g4,L.length*4+3,none⟩=some x:=⟨_,e4⟩
     clear P1 P2 P3 HGC hfz e1 e2 e3 e4 HST hll;go_upto_region 9 with fail;go_region
     go_wp2_with fail;go_ret;exact ⟨rfl,hec,_,_,_,_,HF.out.1.below (qfv _),(HS2.out.trans HF.out.2).trans (Stp.of_below (qfv _) _ _),by rw [List.length_set];have:=HLE.out;omega⟩
def ParsePost (w:World) (R:Res) (e:Ending) (w':World):Prop:=
 match R with
 | .ok _ l _=> ∃v',e= .returned (.tuple #[v', .int .i64 0])∧OwnVals w' w.heap.size v' l∧Below w.heap.size w w'
 | .err c=> e= .returned (.tuple #[.slice none 0 0, .int .i64 (c:Nat)])∧c≠0∧Below w.heap.size w w'
def JsEnv (w:World):Prop:=RdEnv w.heap.size w
theorem JsEnv.below {w w':World} (h:JsEnv w) (k:Below w.heap.size w w'):JsEnv w':=by
 have h2:=RdEnv.below h k
 obtain ⟨a,b,c,d,e1,e2,e3⟩:=h2
 have:=k.size
 exact ⟨a,b,c,d,by omega,by omega,by omega⟩
theorem q0h (w:World) (A:Option Addr) (n c:Nat) (bs:List UInt8) (hB:BytesAt w A n c bs) (hn:n≤1000000000) (hE:JsEnv w):
  Calls Tryz.prog 27 #[.slice A n c] w (ParsePost w (parseF bs)):=by
 have hcv:=qel w A n c bs hB
 rw [show (⟨bs.toArray⟩:ByteArray)=sb bs from rfl]at hcv
 have hl:bs.length≤1000000000:=by rw [hB.len];exact hn
 have hB1:=qac w (.cells #[.string (sb bs), .slice none 0 0, .int .i64 0] 86)
 have hR:RSt (w.alloc (.cells #[.string (sb bs), .slice none 0 0, .int .i64 0] 86)) w.heap.size bs (.slice none 0 0) [] ((0:Nat):Int):=⟨Row.new w _ _,OwnVals.nil _ _⟩
 have HV:=Qh (qzb bs.length _ w.heap.size bs _ [] 0 [] hR (RdEnv.below hE hB1) (Nat.le_refl _) hl (Nat.zero_le _) (Nat.zero_le _))
 have HBB:=Qh (fun w2 v2 (k:Stp (w.alloc (.cells #[.string (sb bs), .slice none 0 0, .int .i64 0] 86)) w2 w.heap.size (.slice none 0 0) v2)=> show Below w.heap.size w w2 from hB1.trans (k.below (Nat.le_refl _) hB1.size (fun k hk=> by cases hk)))
 obtain ⟨RR,hRR⟩:∃RR,RR=parseF bs:=⟨_,rfl⟩
 rw [←hRR]
 unfold parseF Js.valF at hRR
 have HRR:=Qh hRR
 change Hid (Calls _ _ #[_, .string ⟨#[]⟩] _ (ValPost _ _ _ _ _ (valW (fun o2=> kids bs.length o2 (0+1) (0+1) []) [] 0 0 bs)))at HV
 clear hRR hR hB hE hB1
 generalize valW (fun o2=> kids bs.length o2 (0+1) (0+1) []) [] 0 0 bs=R at*
 go_enter Tryz.func27,Tryz.ntmps27
 go_wp2_with fail
 refine HV.out.mono ?_
 intro e w2 hp
 clear hcv
 cases R with
 | err ec=>
  obtain ⟨rfl,hec,s',v',L',d',P1,P2,P3⟩:=hp
  have HX:=Qh (And.intro hec (HBB.out w2 v' P2))
  have hec':¬(ec:Int)=0:=by omega
  clear P1 P2 P3 HV HBB hec;go_wp2_with fail;go_ret2;show ParsePost w RR _ _
  rw [HRR.out];exact ⟨rfl,HX.out.1,HX.out.2⟩
 | ok m l r=>
  obtain ⟨rfl,v',P1,P2⟩:=hp
  have HS:=Qh (qi0 w2 w.heap.size r v' _ _ P1)
  have HBX:=Qh (fun w3 (k:Stp w2 w3 w.heap.size v' v')=> HBB.out w3 v' (P2.trans k))
  clear P1 P2 HV HBB;generalize hsk:skip r=u at*;cases u with
  | nil=>
   have h1:(sb []).toList=[]:=qab _
   have h2:(sb []).toList.isEmpty=true:=by rw [h1];rfl
   have HRS:=Qh (show RR= .ok m l []by rw [HRR.out,Res.bind_ok,if_pos hsk])
   clear HRR hsk;go_wp2_with fail;refine HS.out.mono ?_
   rintro e w3 ⟨rfl,HX⟩;obtain ⟨c0,c1,_⟩:=HX.out.1.cells
   clear HS;generalize hB0:w.heap.size=B0 at*;go_wp2_with fail;go_ret2;show ParsePost w RR _ _
   rw [HRS.out];exact ⟨v',rfl,by rw [hB0];exact HX.out.1.own.mono (by omega),by rw [hB0];exact HBX.out w3 HX.out.2⟩
  | cons a u=>
   have h1:¬(sb (a::u)).toList=[]:=by rw [qab];exact List.cons_ne_nil _ _
   have h2:(sb (a::u)).toList.isEmpty=false:=by rw [qab];rfl
   have HRS:=Qh (show RR= .err 3 by rw [HRR.out,Res.bind_ok,if_neg (by rw [hsk];exact List.cons_ne_nil _ _)])
   clear HRR hsk;go_wp2_with fail;refine HS.out.mono ?_
   rintro e w3 ⟨rfl,HX⟩;obtain ⟨c0,c1,_⟩:=HX.out.1.cells
   clear HS;generalize hB0:w.heap.size=B0 at*;go_wp2_with fail;go_ret2;show ParsePost w RR _ _
   rw [HRS.out];exact ⟨rfl,by decide,by rw [hB0];exact HBX.out w3 HX.out.2⟩
end Go.Proofs.YtgmangikcfakgaaGreatDoor
