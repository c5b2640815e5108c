import Derived.Test.YtgmangikcfakgaaGreatDoorPA41
import Derived.Test.YtgmangikcfakgaaGreatDoorPA35
set_option maxRecDepth 100000
set_option maxHeartbeats 40000000
namespace Go.Proofs.YtgmangikcfakgaaGreatDoor
open Go.RowKit Sh Jt Js
theorem qyx (K:Bool→List UInt8→Res) (key:List UInt8) (d c:Nat) (s:List UInt8) (a:UInt8) (r:List UInt8) (h:skip s=a::r):valW K key d c s=
  if starts a=false then .err 3
  else if 50≤d∨5000≤c then .err 2
  else if a=110 then wordF [110,117,108,108] (a::r) ⟨0,key,[],0⟩
  else if a=116 then wordF [116,114,117,101] (a::r) ⟨1,key,[],0⟩
  else if a=102 then wordF [102,97,108,115,101] (a::r) ⟨2,key,[],0⟩
  else if a=34 then stringF key (a::r)
  else if a=91 then groupF (K false) 5 key 93 r
  else if a=123 then groupF (K true) 6 key 125 r
  else numberF key (a::r):=by
 unfold valW
 rw [h]
theorem qu4:∀g,RValP g:=by
 intro g
 induction g using Nat.strongRecOn with
 | ind g ih=>
  intro w b s u v L d key h hg hs hL hd;unfold Js.valF;have hsl:=qba u
  cases hx:skip u with
  | nil=>
   have e:valW (fun o2=> kids g o2 (d+1) (L.length+1) []) key d L.length u= .err 3:=by
    unfold valW;rw [hx]
   rw [e];exact qv4 w b s u v L d key h hx hs
  | cons a r=>
   rw [hx,List.length_cons]at hsl
   have hv:=qyx (fun o2=> kids g o2 (d+1) (L.length+1) []) key d L.length u a r hx
   by_cases hst:starts a=true
   ·rw [if_neg (by rw [hst];decide)]at hv
    by_cases h0:a=110
    ·rw [if_pos h0]at hv
     exact qrj w b s u v L d key a r h0 h hx hs hL hd _ hv
    rw [if_neg h0]at hv
    by_cases h1:a=116
    ·rw [if_pos h1]at hv
     exact qqx w b s u v L d key a r h1 h hx hs hL hd _ hv
    rw [if_neg h1]at hv
    by_cases h2:a=102
    ·rw [if_pos h2]at hv
     exact qrr w b s u v L d key a r h2 h hx hs hL hd _ hv
    rw [if_neg h2]at hv
    by_cases h3:a=34
    ·rw [if_pos h3]at hv
     exact qv2 w b s u v L d key a r h3 h hx hs hL hd _ hv
    rw [if_neg h3]at hv
    by_cases h4:a=91
    ·rw [if_pos h4]at hv
     exact quz w b s u v L d key a r h4 g ih (by omega) h hx hs hL hd _ hv
    rw [if_neg h4]at hv
    by_cases h5:a=123
    ·rw [if_pos h5]at hv
     exact qvh w b s u v L d key a r h5 g ih (by omega) h hx hs hL hd _ hv
    rw [if_neg h5]at hv
    by_cases h6:a=45
    ·exact qr2 w b s u v L d key a r h6 h hx hs hL hd _ hv
    have hD:isD a=true:=by
     unfold starts at hst;rw [Bool.or_eq_true]at hst
     rcases hst with hst | hst
     ·rcases of_decide_eq_true hst with e | e | e | e | e | e | e
      ·exact absurd e h0
      ·exact absurd e h1
      ·exact absurd e h2
      ·exact absurd e h3
      ·exact absurd e h4
      ·exact absurd e h5
      ·exact absurd e h6
     ·exact hst
    exact qq7 w b s u v L d key a r hD h hx hs hL hd _ hv
   ·rw [if_pos (by simpa using hst)]at hv
    exact qx8 w b s u v L d key a r hst h hx hs hL hd _ hv
end Go.Proofs.YtgmangikcfakgaaGreatDoor
namespace Go.Proofs.YtgmangikcfakgaaGreatDoor
open Go.RowKit Go.Maps Go.WideMaps Sh Jt Js
theorem qwz (w:World) (A:Option Addr) (n c:Nat) (bs:List UInt8) (hB:BytesAt w A n c bs) (hn:n≤1000000000):
  Calls Tryz.prog 33 #[.slice A n c] w (ParsePost w (parseF bs)):=by
 have hcv:=qel w A n c bs hB
 rw [show (⟨bs.toArray⟩:ByteArray)=sb bs from rfl]at hcv
 have hl:bs.length≤1000000000:=by rw [hB.len];exact hn
 have hB1:=qac w (.cells #[.string (sb bs), .int .i64 0, .slice none 0 0, .int .i64 0] 92)
 have hR:RR (w.alloc (.cells #[.string (sb bs), .int .i64 0, .slice none 0 0, .int .i64 0] 92)) w.heap.size bs bs (.slice none 0 0) [] 0:=⟨0,Nat.zero_le _,rfl,⟨Row.new w _ _,OwnVals.nil _ _⟩⟩
 have HV:=Qh (qu4 bs.length _ w.heap.size bs bs _ [] 0 [] hR (Nat.le_refl _) hl (Nat.zero_le _) (Nat.zero_le _))
 have HBB:=Qh (fun w2 v2 (k:Stp (w.alloc (.cells #[.string (sb bs), .int .i64 0, .slice none 0 0, .int .i64 0] 92)) w2 w.heap.size (.slice none 0 0) v2)=> show Below w.heap.size w w2 from hB1.trans (k.below (Nat.le_refl _) hB1.size (fun k hk=> by cases hk)))
 obtain ⟨RR0,hRR⟩:∃RR0,RR0=parseF bs:=⟨_,rfl⟩
 rw [←hRR]
 unfold parseF at hRR
 have HRR:=Qh hRR
 change Hid (Calls _ _ #[_, .string ⟨#[]⟩, .int .i64 0] _ (RVPost _ _ _ [] _ (Js.valF bs.length [] 0 0 bs)))at HV
 clear hRR hR hB hB1
 generalize Js.valF bs.length [] 0 0 bs=R at*
 go_enter Tryz.func33,Tryz.ntmps33
 go_wp2_with fail
 refine HV.out.mono ?_
 intro e w2 hp
 clear hcv
 cases R with
 | err ec=>
  obtain ⟨rfl,hec,u',v',L',HP⟩:=hp
  have HS:=Qh (js_rskip' HP.out.1 hl)
  have HBX:=Qh (fun w3 (k:Stp w2 w3 w.heap.size v' v')=> HBB.out w3 v' (HP.out.2.trans k))
  have hec':¬(ec:Int)=0:=by omega
  have hecb:((ec:Int)==0)=false:=beq_eq_false_iff_ne.2 hec'
  have hecn:((ec:Int) !=0)=true:=by rw [bne,hecb];rfl
  have HEC:=Qh hec
  clear HP HV HBB hec;go_wp2_with fail;refine HS.out.mono ?_
  rintro e w3 ⟨rfl,HX⟩;obtain ⟨p,hp,hq,hr⟩:=HX.out.1
  obtain ⟨c0,c1,c2,c3⟩:=hr.cells
  have HB3:=Qh (HBX.out w3 HX.out.2)
  clear HS hr hq hp HBX HX;generalize hB0:w.heap.size=B0 at*;go_upto_region 4 with fail;go_quiet (fail)
  have HB4:=Qh (HB3.out.trans ((qaa (Below.refl w3.heap.size w3) nq).mono (hB0▸HB3.out.size)))
  have c3':(w3.drewN nq).cell? ⟨B0,3,none⟩=some (.int .i64 (ec:Int)):=c3
  clear c0 c1 c2 c3 HB3;generalize w3.drewN nq=w4 at*;go_upto_region 7 with fail;go_quiet (fail)
  go_wp2_with fail;go_ret2;show ParsePost w RR0 _ _
  rw [HRR.out];exact ⟨rfl,HEC.out,by rw [hB0];exact qaa HB4.out _⟩
 | ok m l r=>
  obtain ⟨rfl,v',HP⟩:=hp
  have HS:=Qh (js_rskip' HP.out.1 hl)
  have HBX:=Qh (fun w3 (k:Stp w2 w3 w.heap.size v' v')=> HBB.out w3 v' (HP.out.2.trans k))
  clear HP HV HBB;rw [List.nil_append]at HS
  generalize hsk:skip r=u at*;have hz:=qag bs
  cases u with
  | nil=>
   have HRS:=Qh (show RR0= .ok m l []by rw [HRR.out,Res.bind_ok,if_pos hsk])
   clear HRR hsk;go_wp2_with fail;refine HS.out.mono ?_
   rintro e w3 ⟨rfl,HX⟩;obtain ⟨p,hp,hq,hr⟩:=HX.out.1
   obtain ⟨c0,c1,c2,c3⟩:=hr.cells
   have hpl:¬(p:Int) < (bs.length:Int):=by
    have:=congrArg List.length hq
    rw [List.length_drop,List.length_nil]at this
    omega
   have hpd:decide ((p:Int) < (bs.length:Int))=false:=decide_eq_false hpl
   have hpd2:decide (p < bs.length)=false:=decide_eq_false (by omega)
   have HB3:=Qh (HBX.out w3 HX.out.2)
   have HOW:=Qh hr.own
   clear HS hr hq hp HBX HX;generalize hB0:w.heap.size=B0 at*;generalize sb bs=S at*;go_upto_region 4 with fail;go_quiet (fail)
   have hq4:=(qaa (Below.refl w3.heap.size w3) nq)
   have HB4:=Qh (HB3.out.trans (hq4.mono (hB0▸HB3.out.size)))
   have HO4:=Qh (HOW.out.below hq4)
   have c3':(w3.drewN nq).cell? ⟨B0,3,none⟩=some (.int .i64 0):=c3
   have c2':(w3.drewN nq).cell? ⟨B0,2,none⟩=some v':=c2
   clear c0 c1 c2 c3 HB3 HOW hq4;generalize w3.drewN nq=w4 at*;go_wp2_with fail;go_ret2;show ParsePost w RR0 _ _
   rw [HRS.out];exact ⟨v',rfl,by rw [hB0];exact HO4.out.mono (by omega),by rw [hB0];exact HB4.out⟩
  | cons a u=>
   have HRS:=Qh (show RR0= .err 3 by rw [HRR.out,Res.bind_ok,if_neg (by rw [hsk];exact List.cons_ne_nil _ _)])
   clear HRR hsk;go_wp2_with fail;refine HS.out.mono ?_
   rintro e w3 ⟨rfl,HX⟩;obtain ⟨p,hp,hq,hr⟩:=HX.out.1
   obtain ⟨c0,c1,c2,c3⟩:=hr.cells
   have hpl:(p:Int) < (bs.length:Int):=by
    have:=congrArg List.length hq
    rw [List.length_drop,List.length_cons]at this
    omega
   have hpd:decide ((p:Int) < (bs.length:Int))=true:=decide_eq_true hpl
   have hpd2:decide (p < bs.length)=true:=decide_eq_true (by omega)
   have HE3:=Qh (fun n=> (hr.drew n).1.err 3)
   have HB3:=Qh (fun n=> HBX.out _ (HX.out.2.trans ((hr.drew n).2.trans ((hr.drew n).1.err 3).2)))
   have ff:=fun n=> (hr.drew n).1.row.frozen 3
   clear HS hr hq hp HBX HX;generalize hB0:w.heap.size=B0 at*;generalize sb bs=S at*;go_upto_region 4 with fail;go_quiet (fail)
   have ff3:=ff nq
   have c3':(w3.drewN nq).cell? ⟨B0,3,none⟩=some (.int .i64 0):=c3
   have HB4:=Qh (HB3.out nq)
   clear c0 c1 c2 c3 HB3 HE3 ff;generalize w3.drewN nq=w4 at*;go_upto_region 7 with fail;go_quiet (fail)
   go_wp2_with fail;go_ret2;show ParsePost w RR0 _ _
   rw [HRS.out];exact ⟨rfl,by decide,by rw [hB0];exact qaa HB4.out _⟩
end Go.Proofs.YtgmangikcfakgaaGreatDoor
namespace Go.Proofs.YtgmangikcfakgaaGreatDoor
open Go.RowKit Sh Jt Js Jo
def cz:List Value:=[.slice none 0 0, .slice none 0 0, .slice none 0 0]
theorem qau (A1:Option Addr) (n1 c1:Nat) (A2:Option Addr) (n2 c2:Nat) (A3:Option Addr) (n3 c3:Nat):([.slice A1 n1 c1, .slice A2 n2 c2, .slice A3 n3 c3]:List Value).toArray.all (·.oneCell')=true:=all_oneCell_toArray (fun v hv=> by
 simp only [List.mem_cons,List.not_mem_nil,or_false]at hv
 rcases hv with rfl | rfl | rfl <;> rfl)
structure RcAt (w wr:World):Prop where
 res:Row wr w.heap.size 28 cz
 below:Below w.heap.size w wr
theorem RcAt.next {w wr w':World} (h:RcAt w wr) (hb:Below wr.heap.size wr w'):RcAt w w':=⟨h.res.below hb h.res.lt,h.below.trans (hb.mono h.below.size)⟩
theorem RcAt.new (w:World) {C:Array Value} (hC:C=cz.toArray):RcAt w (w.alloc (.cells C 28)):=by
 subst hC
 exact ⟨Row.new _ _ _,qac _ _⟩
namespace Jo
theorem qmn {L:List V} (h:idsF (ofKey L rootK)≠none):sortA (dropA (dropA L rootK) histK)=srt (dropA (dropA L rootK) histK):=by
 have nR:ofKey L rootK≠[]:=fun e=> by
  rw [e]at h
  exact h rfl
 obtain ⟨P,hP⟩:=qbn (qcv nR)
 exact qd1 (ObjIs.but (ObjIs.but hP rootK) histK).right
end Jo
def ConfPost (w:World) (R:OutC) (e:Ending) (w':World):Prop:=
 match R with
 | .err k=> e= .returned (.tuple #[.agg cz.toArray, .int .i64 (k:Nat)])∧k≠0∧Hid (Below w.heap.size w w')
 | .ok y=> ∃(Q:List Pe) (A1:Option Addr) (c1:Nat) (A2:Option Addr) (c2:Nat) (A3:Option Addr) (c3:Nat),e= .returned (.tuple #[.agg #[.slice A1 y.ids.length c1, .slice A2 Q.length c2, .slice A3 y.rest.length c3], .int .i64 0])∧Hid (ConfIn w' y Q A1 y.ids.length c1 A2 Q.length c2 A3 y.rest.length c3∧Below w.heap.size w w')
theorem qxu (w:World) (A:Option Addr) (n c:Nat) (bs:List UInt8) (hB:BytesAt w A n c bs) (hn:n≤250000000):
  Calls Tryz.prog 10 #[.slice A n c] w (ConfPost w (parseC bs)):=by
 obtain ⟨R,hR⟩:∃R,parseC bs=R:=⟨_,rfl⟩
 rw [hR]
 have HR:=Qh hR
 have HPA:=Qh (fun W (q:Below w.heap.size w W)=> qwz W A n c bs (hB.below q) (by omega))
 have HSH:=Qh (fun k l r (h:parseF bs= .ok k l r)=> show Short 1000000000 l from qar (qd4 h) (by have:=hB.len;omega))
 clear hR hB
 unfold parseC at HR
 generalize hQ:parseF bs=Q at*
 have HQ:=Qh hQ
 clear hQ
 go_enter Tryz.func10,Tryz.ntmps10
 go_upto_region 1 with fail
 have P0:Hid (RcAt w (w.alloc (Obj.cells cz.toArray 28))):=Qh (RcAt.new w rfl)
 generalize hW0:w.alloc (Obj.cells cz.toArray 28)=w0 at P0
 generalize hW:World.alloc _ _=W'
 obtain rfl:w0=W':=hW0.symm.trans hW
 clear hW hW0
 go_wp2_with fail
 refine (HPA.out w0 P0.out.below).mono ?_
 intro e w1 hp
 cases Q with
 | err k=>
  obtain ⟨rfl,hk,K1⟩:=hp
  have P1:=Qh (P0.out.next K1)
  have HRR:Hid (R= .err k):=Qh HR.out.symm
  have hb:((k:Int) !=0)=true:=by rw [bne_iff_ne];omega
  clear P0 K1 HPA HR;have HK:=Qh hk
  clear hk;go_wp2_with (first
   | ((with_reducible refine qao ?_ 28 #[] ?_ cz.toArray ?_ ?_);rfl;rfl;go_must (refine Eq.trans ?_ qa9;kernel_rfl))
   | ((with_reducible refine qaf ?_ 28 (.tmp 2) (.tmp 17) ?_ w.heap.size cz ?_ ?_ cz ?_ ?_ ?_ ?_ ?_);rfl;rfl;go_must (rfl;rfl;rfl;exact P1.out.res;exact qah;exact qau _ _ _ _ _ _ _ _ _;intro wz Rz Kz Ez)))
  refine bodyPost_ret (v:= .tuple #[.agg cz.toArray, .int .i64 (k:Nat)]) (qae (fn:=Tryz.f10) (p:=2) (u:=3) rfl _ _ w.heap.size _ cz.toArray _ _ rfl Rz.out Tryz.underlying28 rfl qah) rfl ?_
  rw [HRR.out];exact ⟨rfl,HK.out,Qh (qap P1.out.below Kz.out)⟩
 | ok k L r=>
  obtain ⟨v1,rfl,O1,K1⟩:=hp
  have P1:=Qh (P0.out.next K1)
  obtain ⟨A1,c1,rfl,hv1,_⟩:=O1.vals
  have HV1:=Qh hv1
  have hpar:=qd7 HQ.out
  obtain ⟨t,ht⟩:=hpar.2.2
  have HRT:=Qh ((qa4 L).2 ⟨t,ht⟩)
  have hl5:L.length≤5000:=ht.1
  have HS:=Qh (show Short 1000000000 L from HSH.out k L r rfl)
  have HMN:Hid (R=confF L):=Qh HR.out.symm
  clear P0 K1 HPA HR O1 hv1 hpar ht HQ HSH;have HGC:=Qh (fun W (q:Below w1.heap.size w1 W)=> qd2 W A1 L.length c1 L (HV1.out.below q) (by omega) HS.out 0 rootK)
  have HCC:=Qh (fun W (q:Below w1.heap.size w1 W)=> qaj (L:=ofKey L rootK) rfl (qsm W A1 L.length c1 L (HV1.out.below q) (by omega) HS.out (plc (getA L 0 rootK))))
  have HHI:=Qh (fun W (q:Below w1.heap.size w1 W)=> qrd W A1 L.length c1 L (HV1.out.below q) hl5 HS.out)
  have HDC:=Qh (fun W (q:Below w1.heap.size w1 W)=> qaj (L:=dropA L rootK) rfl (qb7 W A1 L.length c1 L (HV1.out.below q) (by omega) HS.out rootK))
  have HKS:=Qh (show Short 1000000000 (ofKey L rootK)from qb4 HS.out _)
  have hk1:(ofKey L rootK).length≤L.length:=qc6 _ _
  have hd1:=qda (L:=L) rootK
  have HSD:=Qh (qbj HS.out (key:=rootK))
  have HX3:=Qh (fun (h:idsF (ofKey L rootK)≠none)=> qmn (L:=L) h)
  change Hid (∀W,_→Calls _ _ #[_,_, .string ⟨#[114,111,111,116,102,115]⟩] _ _)at HGC
  change Hid (∀W,_→Calls _ _ #[_, .string ⟨#[114,111,111,116,102,115]⟩] _ _)at HDC
  clear HS HRT HV1;have B1:=Qh (Below.refl w1.heap.size w1)
  go_wp2_with fail;refine (HGC.out w1 B1.out).mono ?_
  rintro e w3 ⟨rfl,K3⟩;have P3:=Qh (P1.out.next K3.out)
  have B3:=Qh (B1.out.trans (K3.out.mono B1.out.size))
  clear P1 K3 HGC B1;go_wp2_with fail;refine (HCC.out w3 B3.out).mono ?_
  rintro e w4 ⟨A4,c4,rfl,K4⟩;have P4:=Qh (P3.out.next K4.out.2.2)
  have B4:=Qh (B3.out.trans (K4.out.2.2.mono B3.out.size))
  have HV4:=Qh K4.out.2.1
  clear P3 K4 HCC B3;generalize plc (getA L 0 rootK)=zc at*;go_wp2_with fail;refine (q1m w4 A4 (ofKey L rootK).length c4 (ofKey L rootK) HV4.out (by omega) HKS.out).mono ?_
  rintro e w5 ⟨v6,rfl,K5⟩;have P5:=Qh (P4.out.next K5.out.2)
  have B5:=Qh (B4.out.trans (K5.out.2.mono B4.out.size))
  have O5:=Qh K5.out.1
  have HMO:Hid (R=match idsF (ofKey L rootK),histF L with
   | some d,some h=> if 60 < d.length∨200 < h.length then .err 2 else if 0 < h.length∧layersN h≠d.length then .err 3 else .ok ⟨d,h,srt (dropA (dropA L rootK) histK)⟩
   | _,_=> .err 3):=HMN
  have hq4:w.heap.size < w4.heap.size:=P4.out.res.lt
  clear P4 K5 HV4 B4 HMN;generalize idsF (ofKey L rootK)=o1 at*;generalize (ofKey L rootK).length=xk at*;go_wp2_with fail;refine (HHI.out w5 B5.out).mono ?_
  rintro e w6 ⟨v8,Q8,rfl,HQ8,K6⟩;have P6:=Qh (P5.out.next K6.out.2)
  have B6:=Qh (B5.out.trans (K6.out.2.mono B5.out.size))
  have O6:=Qh (O5.out.below K6.out.2)
  have OH6:=Qh K6.out.1
  have hq5:w.heap.size < w5.heap.size:=P5.out.res.lt
  clear P5 K6 HHI B5 O5;generalize histF L=o2 at*;cases o1 with
  | none=>
   have HRR:Hid (R= .err 3):=HMO
   simp only [Option.isSome_none]
   generalize o2.isSome=b2;clear HMO HX3 O6 OH6;go_wp2_with (first
    | ((with_reducible refine qao ?_ 28 #[] ?_ cz.toArray ?_ ?_);rfl;rfl;go_must (refine Eq.trans ?_ qa9;kernel_rfl))
    | ((with_reducible refine qaf ?_ 28 (.tmp 2) (.tmp 38) ?_ w.heap.size cz ?_ ?_ cz ?_ ?_ ?_ ?_ ?_);rfl;rfl;go_must (rfl;rfl;rfl;exact P6.out.res;exact qah;exact qau _ _ _ _ _ _ _ _ _;intro wz Rz Kz Ez)))
   refine bodyPost_ret (v:= .tuple #[.agg cz.toArray, .int .i64 (3:Int)]) (qae (fn:=Tryz.f10) (p:=2) (u:=3) rfl _ _ w.heap.size _ cz.toArray _ _ rfl Rz.out Tryz.underlying28 rfl qah) rfl ?_
   rw [HRR.out];exact ⟨rfl,by decide,Qh (qap P6.out.below Kz.out)⟩
  | some d=>
   simp only [Option.isSome_some]
   cases o2 with
   | none=>
    have HRR:Hid (R= .err 3):=HMO
    simp only [Option.isSome_none]
    clear HMO HX3 O6 OH6;go_wp2_with (first
     | ((with_reducible refine qao ?_ 28 #[] ?_ cz.toArray ?_ ?_);rfl;rfl;go_must (refine Eq.trans ?_ qa9;kernel_rfl))
     | ((with_reducible refine qaf ?_ 28 (.tmp 2) (.tmp 38) ?_ w.heap.size cz ?_ ?_ cz ?_ ?_ ?_ ?_ ?_);rfl;rfl;go_must (rfl;rfl;rfl;exact P6.out.res;exact qah;exact qau _ _ _ _ _ _ _ _ _;intro wz Rz Kz Ez)))
    refine bodyPost_ret (v:= .tuple #[.agg cz.toArray, .int .i64 (3:Int)]) (qae (fn:=Tryz.f10) (p:=2) (u:=3) rfl _ _ w.heap.size _ cz.toArray _ _ rfl Rz.out Tryz.underlying28 rfl qah) rfl ?_
    rw [HRR.out];exact ⟨rfl,by decide,Qh (qap P6.out.below Kz.out)⟩
   | some h=>
    simp only [Option.isSome_some]
    have HMO2:Hid (R=if 60 < d.length∨200 < h.length then .err 2 else if 0 < h.length∧layersN h≠d.length then .err 3 else .ok ⟨d,h,srt (dropA (dropA L rootK) histK)⟩):=HMO
    have HQH:Hid (histsOf Q8=h):=HQ8
    have hqh:h.length=Q8.length:=by rw [←HQH.out];exact List.length_map _
    have HX4:=Qh (HX3.out (fun e=> by cases e))
    clear HMO HQ8 HX3;obtain ⟨A6,c6,rfl,hg6, -,ha6, -⟩:=(show OwnGs w6 w4.heap.size v6 d from O6.out).gs
    have HA6:=Qh (fun b o (e:A6=some ⟨b,o,none⟩)=> show w.heap.size < b from by
     obtain ⟨g,e2,h1,_⟩:=ha6 _ e
     cases e2
     omega)
    obtain ⟨A8,c8,rfl,hh8,ha8⟩:=OH6.out.hists
    have HA8:=Qh (fun b o (e:A8=some ⟨b,o,none⟩)=> show w.heap.size < b from by have:=ha8 b o e;omega)
    have HB8:=Qh (fun q (hq:q∈Q8) b o (e:q.rest.at_=some ⟨b,o,none⟩)=> show w.heap.size < b from by have:=OH6.out.base q hq b o e;omega)
    clear ha6 ha8;have HG6:=Qh hg6
    have HH6:=Qh hh8
    clear O6 OH6 hg6 hh8;by_cases g60:60 < d.length
    ·have HRR:Hid (R= .err 2):=Qh (by rw [HMO2.out,if_pos (.inl g60)])
     have hg:(60:Int) < (d.length:Int):=by omega
     clear HMO2 HX4;go_wp2_with (first
      | ((with_reducible refine qao ?_ 28 #[] ?_ cz.toArray ?_ ?_);rfl;rfl;go_must (refine Eq.trans ?_ qa9;kernel_rfl))
      | ((with_reducible refine qaf ?_ 28 (.tmp 2) (.tmp 47) ?_ w.heap.size cz ?_ ?_ cz ?_ ?_ ?_ ?_ ?_);rfl;rfl;go_must (rfl;rfl;rfl;exact P6.out.res;exact qah;exact qau _ _ _ _ _ _ _ _ _;intro wz Rz Kz Ez)))
     refine bodyPost_ret (v:= .tuple #[.agg cz.toArray, .int .i64 (2:Int)]) (qae (fn:=Tryz.f10) (p:=2) (u:=3) rfl _ _ w.heap.size _ cz.toArray _ _ rfl Rz.out Tryz.underlying28 rfl qah) rfl ?_
     rw [HRR.out];exact ⟨rfl,by decide,Qh (qap P6.out.below Kz.out)⟩
    have hg:¬(60:Int) < (d.length:Int):=by omega
    by_cases g200:200 < h.length
    ·have HRR:Hid (R= .err 2):=Qh (by rw [HMO2.out,if_pos (.inr g200)])
     have hg2:(200:Int) < (Q8.length:Int):=by omega
     clear HMO2 HX4;go_wp2_with (first
      | ((with_reducible refine qao ?_ 28 #[] ?_ cz.toArray ?_ ?_);rfl;rfl;go_must (refine Eq.trans ?_ qa9;kernel_rfl))
      | ((with_reducible refine qaf ?_ 28 (.tmp 2) (.tmp 47) ?_ w.heap.size cz ?_ ?_ cz ?_ ?_ ?_ ?_ ?_);rfl;rfl;go_must (rfl;rfl;rfl;exact P6.out.res;exact qah;exact qau _ _ _ _ _ _ _ _ _;intro wz Rz Kz Ez)))
     refine bodyPost_ret (v:= .tuple #[.agg cz.toArray, .int .i64 (2:Int)]) (qae (fn:=Tryz.f10) (p:=2) (u:=3) rfl _ _ w.heap.size _ cz.toArray _ _ rfl Rz.out Tryz.underlying28 rfl qah) rfl ?_
     rw [HRR.out];exact ⟨rfl,by decide,Qh (qap P6.out.below Kz.out)⟩
    have hg2:¬(200:Int) < (Q8.length:Int):=by omega
    have HM3:Hid (R=if 0 < h.length∧layersN h≠d.length then .err 3 else .ok ⟨d,h,srt (dropA (dropA L rootK) histK)⟩):=Qh (by rw [HMO2.out,if_neg (by omega)])
    clear HMO2;by_cases g0:0 < h.length
    case neg=>
     have HRR:Hid (R= .ok ⟨d,h,srt (dropA (dropA L rootK) histK)⟩):=Qh (by rw [HM3.out,if_neg (fun e=> g0 e.1)])
     have hg3:¬(0:Int) < (Q8.length:Int):=by omega
     clear HM3;have HDX:=Qh (HDC.out w6 B6.out)
     go_wp2_with fail;refine HDX.out.mono ?_
     rintro e w10 ⟨A10,c10,rfl,K10⟩;have P10:=Qh (P6.out.next K10.out.2.2)
     have HG10:=Qh (HG6.out.below K10.out.2.2)
     have HH10:=Qh (HH6.out.below K10.out.2.2)
     have HV10:=Qh K10.out.2.1
     clear P6 K10 HG6 HH6 HDX;have HSD2:=Qh (qbj HSD.out (key:=histK))
     have hd2:=qda (L:=dropA L rootK) histK
     generalize dropA L rootK=X1 at*;go_wp2_with fail;refine (show Calls _ _ #[_, .string ⟨#[104,105,115,116,111,114,121]⟩] _ _ from qaj (L:=dropA X1 histK) rfl (qb7 w10 A10 X1.length c10 X1 HV10.out (by omega) HSD.out histK)).mono ?_
     rintro e w11 ⟨A11,c11,rfl,K11⟩;have P11:=Qh (P10.out.next K11.out.2.2)
     have HG11:=Qh (HG10.out.below K11.out.2.2)
     have HH11:=Qh (HH10.out.below K11.out.2.2)
     have HV11:=Qh K11.out.2.1
     clear P10 K11 HG10 HH10 HV10;generalize dropA X1 histK=X2 at*;go_wp2_with fail;refine (qaj (L:=sortA X2) rfl (qco w11 A11 X2.length c11 X2 HV11.out (by omega) HSD2.out)).mono ?_
     rintro e w12 ⟨A12,c12,rfl,K12⟩;have P12:=Qh (P11.out.next K12.out.2.2)
     have HG12:=Qh (HG11.out.below K12.out.2.2)
     have HH12:=Qh (HH11.out.below K12.out.2.2)
     have HR12:=Qh K12.out.2.1
     have hq11:w.heap.size < w11.heap.size:=P11.out.res.lt
     have HA12:=Qh (fun b o (e:A12=some ⟨b,o,none⟩)=> show w.heap.size < b from by have:=(K12.out.1.block (show (Value.slice A12 (sortA X2).length c12).ownBlock=some b from by rw [e];rfl)).1;omega)
     clear P11 K12 HG11 HH11 HV11;generalize hsx:(sortA X2).length=sx at*;have HSX:=Qh hsx
     clear hsx;generalize hsq:Q8.length=nq at*;have HSQ:=Qh hsq
     clear hsq;generalize hsd:d.length=nd at*;have HSDD:=Qh hsd
     clear hsd;go_wp2_with (first
      | ((with_reducible refine qao ?_ 28 #[(0, .tmp 59),(1, .tmp 60),(2, .tmp 64)] ?_ #[.slice A6 nd c6, .slice A8 nq c8, .slice A12 sx c12] ?_ ?_);rfl;rfl;go_must (refine Eq.trans ?_ (qep A6 nd c6 A8 nq c8 A12 sx c12);kernel_rfl))
      | ((with_reducible refine qaf ?_ 28 (.tmp 2) (.tmp 65) ?_ w.heap.size [.slice A6 nd c6, .slice A8 nq c8, .slice A12 sx c12] ?_ ?_ cz ?_ ?_ ?_ ?_ ?_);rfl;rfl;go_must (rfl;rfl;rfl;exact P12.out.res;exact qah;exact qau _ _ _ _ _ _ _ _ _;intro wz Rz Kz Ez)))
     refine bodyPost_ret (v:= .tuple #[.agg #[.slice A6 nd c6, .slice A8 nq c8, .slice A12 sx c12], .int .i64 0]) (qae (fn:=Tryz.f10) (p:=2) (u:=3) rfl _ _ w.heap.size _ #[.slice A6 nd c6, .slice A8 nq c8, .slice A12 sx c12] _ _ rfl Rz.out Tryz.underlying28 rfl qah) rfl ?_
     rw [HRR.out];refine ⟨Q8,A6,c6,A8,c8,A12,c12, ?_,Qh ⟨?_,qap P12.out.below Kz.out⟩⟩
     ·show _=Ending.returned (.tuple #[.agg #[.slice A6 d.length c6, .slice A8 Q8.length c8, .slice A12 (srt X2).length c12], .int .i64 0])
      rw [HSDD.out,HSQ.out,←HX4.out,HSX.out]
     ·show ConfIn wz ⟨d,h,srt X2⟩ Q8 A6 d.length c6 A8 Q8.length c8 A12 (srt X2).length c12
      rw [HSDD.out,HSQ.out,←HX4.out,HSX.out];refine ⟨HG12.out.kept Kz.out (fun b o e _ h=> ?_),HH12.out.kept Kz.out (fun b o e _ h=> ?_) (fun q hq b o e _ h=> ?_),HQH.out,HR12.out.kept Kz.out (fun b o e _ h=> ?_)⟩
      ·have:=HA6.out b o e;omega
      ·have:=HA8.out b o e;omega
      ·have:=HB8.out q hq b o e;omega
      ·have:=HA12.out b o e;omega
    have hg3:(0:Int) < (Q8.length:Int):=by omega
    have HLY:=Qh (qtm w6 A8 Q8.length c8 Q8 HH6.out (by omega))
    rw [HQH.out]at HLY
    go_upto_region 10 with fail;go_wp2_with fail;refine HLY.out.mono ?_
    rintro e w7 ⟨rfl,rfl⟩;clear HLY;by_cases gl:layersN h=d.length
    case neg=>
     have HRR:Hid (R= .err 3):=Qh (by rw [HM3.out,if_pos ⟨g0,gl⟩])
     have hb:(((layersN h:Nat):Int) !=(d.length:Int))=true:=bne_iff_ne.2 (fun e=> gl (by omega))
     clear HM3 HX4 gl;generalize layersN h=ly at*;go_wp2_with (first
      | ((with_reducible refine qao ?_ 28 #[] ?_ cz.toArray ?_ ?_);rfl;rfl;go_must (refine Eq.trans ?_ qa9;kernel_rfl))
      | ((with_reducible refine qaf ?_ 28 (.tmp 2) (.tmp 58) ?_ w.heap.size cz ?_ ?_ cz ?_ ?_ ?_ ?_ ?_);rfl;rfl;go_must (rfl;rfl;rfl;exact P6.out.res;exact qah;exact qau _ _ _ _ _ _ _ _ _;intro wz Rz Kz Ez)))
     refine bodyPost_ret (v:= .tuple #[.agg cz.toArray, .int .i64 (3:Int)]) (qae (fn:=Tryz.f10) (p:=2) (u:=3) rfl _ _ w.heap.size _ cz.toArray _ _ rfl Rz.out Tryz.underlying28 rfl qah) rfl ?_
     rw [HRR.out];exact ⟨rfl,by decide,Qh (qap P6.out.below Kz.out)⟩
    have HRR:Hid (R= .ok ⟨d,h,srt (dropA (dropA L rootK) histK)⟩):=Qh (by rw [HM3.out,if_neg (fun e=> e.2 gl)])
    have hb:(((layersN h:Nat):Int) !=(d.length:Int))=false:=by rw [gl];exact bne_self_eq_false _
    clear HM3 gl;generalize layersN h=ly at*;have HDX:=Qh (HDC.out w6 B6.out)
    go_wp2_with fail;refine HDX.out.mono ?_
    rintro e w10 ⟨A10,c10,rfl,K10⟩;have P10:=Qh (P6.out.next K10.out.2.2)
    have HG10:=Qh (HG6.out.below K10.out.2.2)
    have HH10:=Qh (HH6.out.below K10.out.2.2)
    have HV10:=Qh K10.out.2.1
    clear P6 K10 HG6 HH6 HDX;have HSD2:=Qh (qbj HSD.out (key:=histK))
    have hd2:=qda (L:=dropA L rootK) histK
    generalize dropA L rootK=X1 at*;go_wp2_with fail;refine (show Calls _ _ #[_, .string ⟨#[104,105,115,116,111,114,121]⟩] _ _ from qaj (L:=dropA X1 histK) rfl (qb7 w10 A10 X1.length c10 X1 HV10.out (by omega) HSD.out histK)).mono ?_
    rintro e w11 ⟨A11,c11,rfl,K11⟩;have P11:=Qh (P10.out.next K11.out.2.2)
    have HG11:=Qh (HG10.out.below K11.out.2.2)
    have HH11:=Qh (HH10.out.below K11.out.2.2)
    have HV11:=Qh K11.out.2.1
    clear P10 K11 HG10 HH10 HV10;generalize dropA X1 histK=X2 at*;go_wp2_with fail;refine (qaj (L:=sortA X2) rfl (qco w11 A11 X2.length c11 X2 HV11.out (by omega) HSD2.out)).mono ?_
    rintro e w12 ⟨A12,c12,rfl,K12⟩;have P12:=Qh (P11.out.next K12.out.2.2)
    have HG12:=Qh (HG11.out.below K12.out.2.2)
    have HH12:=Qh (HH11.out.below K12.out.2.2)
    have HR12:=Qh K12.out.2.1
    have hq11:w.heap.size < w11.heap.size:=P11.out.res.lt
    have HA12:=Qh (fun b o (e:A12=some ⟨b,o,none⟩)=> show w.heap.size < b from by have:=(K12.out.1.block (show (Value.slice A12 (sortA X2).length c12).ownBlock=some b from by rw [e];rfl)).1;omega)
    clear P11 K12 HG11 HH11 HV11;generalize hsx:(sortA X2).length=sx at*;have HSX:=Qh hsx
    clear hsx;generalize hsq:Q8.length=nq at*;have HSQ:=Qh hsq
    clear hsq;generalize hsd:d.length=nd at*;have HSDD:=Qh hsd
    clear hsd;go_wp2_with (first
     | ((with_reducible refine qao ?_ 28 #[(0, .tmp 59),(1, .tmp 60),(2, .tmp 64)] ?_ #[.slice A6 nd c6, .slice A8 nq c8, .slice A12 sx c12] ?_ ?_);rfl;rfl;go_must (refine Eq.trans ?_ (qep A6 nd c6 A8 nq c8 A12 sx c12);kernel_rfl))
     | ((with_reducible refine qaf ?_ 28 (.tmp 2) (.tmp 65) ?_ w.heap.size [.slice A6 nd c6, .slice A8 nq c8, .slice A12 sx c12] ?_ ?_ cz ?_ ?_ ?_ ?_ ?_);rfl;rfl;go_must (rfl;rfl;rfl;exact P12.out.res;exact qah;exact qau _ _ _ _ _ _ _ _ _;intro wz Rz Kz Ez)))
    refine bodyPost_ret (v:= .tuple #[.agg #[.slice A6 nd c6, .slice A8 nq c8, .slice A12 sx c12], .int .i64 0]) (qae (fn:=Tryz.f10) (p:=2) (u:=3) rfl _ _ w.heap.size _ #[.slice A6 nd c6, .slice A8 nq c8, .slice A12 sx c12] _ _ rfl Rz.out Tryz.underlying28 rfl qah) rfl ?_
    rw [HRR.out];refine ⟨Q8,A6,c6,A8,c8,A12,c12, ?_,Qh ⟨?_,qap P12.out.below Kz.out⟩⟩
    ·show _=Ending.returned (.tuple #[.agg #[.slice A6 d.length c6, .slice A8 Q8.length c8, .slice A12 (srt X2).length c12], .int .i64 0])
     rw [HSDD.out,HSQ.out,←HX4.out,HSX.out]
    ·show ConfIn wz ⟨d,h,srt X2⟩ Q8 A6 d.length c6 A8 Q8.length c8 A12 (srt X2).length c12
     rw [HSDD.out,HSQ.out,←HX4.out,HSX.out];refine ⟨HG12.out.kept Kz.out (fun b o e _ h=> ?_),HH12.out.kept Kz.out (fun b o e _ h=> ?_) (fun q hq b o e _ h=> ?_),HQH.out,HR12.out.kept Kz.out (fun b o e _ h=> ?_)⟩
     ·have:=HA6.out b o e;omega
     ·have:=HA8.out b o e;omega
     ·have:=HB8.out q hq b o e;omega
     ·have:=HA12.out b o e;omega
end Go.Proofs.YtgmangikcfakgaaGreatDoor
