import Derived.Test.YtgmangikcfakgaaGreatDoorPA40
set_option maxRecDepth 100000
set_option maxHeartbeats 40000000
namespace Go.Proofs.YtgmangikcfakgaaGreatDoor
open Go.RowKit Sh Jt Js
theorem qr2 (w:World) (b:Nat) (s u:List UInt8) (v:Value) (L:List V) (d:Nat) (key:List UInt8) (a:UInt8) (r:List UInt8) (ha:a=45) (h:RR w b s u v L 0) (hx:skip u=a::r) (hs:s.length≤1000000000) (hL:L.length≤5000) (hd:d≤50) (R:Res) (hR:R=if 50≤d∨5000≤L.length then .err 2 else numberF key (a::r)):
  Calls Tryz.prog 63 #[.pointer (some ⟨b,0,none⟩), .string (sb key), .int .i64 (d:Int)] w (RVPost b s v L w R):=by
 subst ha
 have HK0:=Qh h.own.vals
 have HK:=Qh (js_rskip' h hs)
 rw [hx]at HK
 have hss:skip (45::r)=45::r:=by rw [←hx,qa3]
 clear hx h
 have HR:=Qh hR
 clear hR
 obtain ⟨AA,cc,hvv, -⟩:∃AA cc,v= .slice AA L.length cc∧True:=by
  obtain ⟨A,c,e,_⟩:=HK0.out
  exact ⟨A,c,e,trivial⟩
 subst hvv
 clear HK0
 have h1:¬(sb (45::r)).toList=[]:=by rw [qab];exact List.cons_ne_nil _ _
 have h2:(sb (45::r)).toList.isEmpty=false:=by rw [qab];rfl
 have h3:(sb (45::r)).size=r.length+1:=by rw [qag,List.length_cons]
 have hix:∀W,(Instr.index 9 (.string (sb (45::r))) (.int .i64 0)).run Tryz.prog W= .ok (.int .u8 45) W:=fun W=> qam (45::r) 0 (by simp) W
 have hgt:(0:Int) < (r.length:Int)+1:=by omega
 have hgt2:decide ((0:Int) < (r.length:Int)+1)=true:=decide_eq_true hgt
 have HXX:=Qh (rfl:45::r=45::r)
 obtain ⟨X,hX⟩:∃X,X=45::r:=⟨_,rfl⟩
 rw [←hX]at HK h1 h2 h3 hix hss
 have HX0:=Qh hX
 clear hX HXX
 have hxl:X.length=r.length+1:=by rw [HX0.out,List.length_cons]
 go_enter Tryz.func63,Tryz.ntmps63
 go_wp2_with fail
 refine HK.out.mono ?_
 rintro en w1 ⟨rfl,HX⟩
 clear HK
 obtain ⟨p,hp,hq,hr⟩:=HX.out.1
 obtain ⟨c0,c1,c2,c3⟩:=hr.cells
 have hz:=qag s
 have hcut:=qbg s p
 rw [hq]at hcut
 have hpi:(p:Int)≤(s.length:Int):=by omega
 have hbl:=hr.row.lt
 clear hr hq c2 c3
 generalize sb s=S at*
 generalize hTT:sb X=T at*
 have HTT:=Qh hTT
 clear hTT
 go_upto_region 2 with fail
 go_quiet (fail)
 have HX2:Hid (RR (w1.drewN nq) b s X (.slice AA L.length cc) L 0∧Stp w (w1.drewN nq) b (.slice AA L.length cc) (.slice AA L.length cc)):=Qh ⟨HX.out.1.below (qaa (Below.refl _ _) nq),HX.out.2.trans (Stp.of_below (qaa (Below.refl _ _) nq) b _)⟩
 have hbl2:b < (w1.drewN nq).heap.size:=hbl
 clear HX c0 c1 hbl hcut hpi hp hz
 generalize w1.drewN nq=w2 at*
 have R2:Hid (Row (w2.alloc (.cells #[.string ⟨#[]⟩, .string ⟨#[]⟩, .string ⟨#[]⟩] 122)) w2.heap.size 122 [.string ⟨#[]⟩, .string ⟨#[]⟩, .string ⟨#[]⟩]):=Qh (Row.new w2 _ _)
 go_upto_region 3 with fail
 go_wp2_with ((with_reducible refine qaf ?_ 122 (.tmp 8) (.tmp 26) ?_ w2.heap.size [.string ⟨#[110,117,108,108]⟩, .string ⟨#[116,114,117,101]⟩, .string ⟨#[102,97,108,115,101]⟩] ?_ ?_ _ ?_ R2.out ?_ ?_ ?_);rfl;rfl;go_must (rfl;rfl;rfl;kernel_rfl;exact qbu _ _ _;intro w3 R3 K3 E3))
 have hB3:Below w2.heap.size w2 w3:=(qac w2 _).trans (K3.out.below (qac w2 _).size (fun k hk e=> by
  have:k=w2.heap.size:=e
  omega))
 have HX3:=Qh (And.intro (HX2.out.1.below hB3) (HX2.out.2.trans (Stp.of_below hB3 b _)))
 clear HX2 R2 K3 E3 hB3 hbl2
 generalize w2.heap.size=B at*
 go_wp2_with fail
 go_loopg [9] 3 (fun g v9 wx=> ∃j:Nat,j+g=3∧j≤3∧v9= .int .i64 (j:Int)∧Hid (Row wx B 122 [.string ⟨#[110,117,108,108]⟩, .string ⟨#[116,114,117,101]⟩, .string ⟨#[102,97,108,115,101]⟩])∧Hid (RR wx b s X (.slice AA L.length cc) L 0∧Stp w wx b (.slice AA L.length cc) (.slice AA L.length cc)))
 case atStart=> exact ⟨0,rfl,Nat.zero_le _,rfl,R3,HX3⟩
 case round=>
  clear R3 HX3;obtain ⟨j,hj,hjI,rfl,HQ,HX⟩:=hrel
  have q0:wr.cell? ⟨B,0,none⟩=some (.string ⟨#[110,117,108,108]⟩):=HQ.out.cell rfl
  have q1:wr.cell? ⟨B,1,none⟩=some (.string ⟨#[116,114,117,101]⟩):=HQ.out.cell rfl
  have q2:wr.cell? ⟨B,2,none⟩=some (.string ⟨#[102,97,108,115,101]⟩):=HQ.out.cell rfl
  have hj3:j=0∨j=1∨j=2∨j=3:=by omega
  rcases hj3 with rfl | rfl | rfl | rfl
  ·obtain rfl:gk=3:=by omega
   go_upto_region 7 with fail;go_quiet (fail)
   have HY:Hid (RR (wr.drewN nq) b s X (.slice AA L.length cc) L 0∧Stp w (wr.drewN nq) b (.slice AA L.length cc) (.slice AA L.length cc)):=Qh ⟨HX.out.1.below (qaa (Below.refl _ _) nq),HX.out.2.trans (Stp.of_below (qaa (Below.refl _ _) nq) b _)⟩
   have HQY:Hid (Row (wr.drewN nq) B 122 [.string ⟨#[110,117,108,108]⟩, .string ⟨#[116,114,117,101]⟩, .string ⟨#[102,97,108,115,101]⟩]):=Qh (HQ.out.below (qaa (Below.refl _ _) nq) HQ.out.lt)
   clear HX HQ q0 q1 q2;generalize wr.drewN nq=wy at*;go_wp2_with fail;go_roundg 2
   case measure=> omega
   case rel=> exact ⟨1,rfl,by omega,by first | rfl | go_num,HQY,HY⟩
  ·obtain rfl:gk=2:=by omega
   go_upto_region 7 with fail;go_quiet (fail)
   have HY:Hid (RR (wr.drewN nq) b s X (.slice AA L.length cc) L 0∧Stp w (wr.drewN nq) b (.slice AA L.length cc) (.slice AA L.length cc)):=Qh ⟨HX.out.1.below (qaa (Below.refl _ _) nq),HX.out.2.trans (Stp.of_below (qaa (Below.refl _ _) nq) b _)⟩
   have HQY:Hid (Row (wr.drewN nq) B 122 [.string ⟨#[110,117,108,108]⟩, .string ⟨#[116,114,117,101]⟩, .string ⟨#[102,97,108,115,101]⟩]):=Qh (HQ.out.below (qaa (Below.refl _ _) nq) HQ.out.lt)
   clear HX HQ q0 q1 q2;generalize wr.drewN nq=wy at*;go_wp2_with fail;go_roundg 1
   case measure=> omega
   case rel=> exact ⟨2,rfl,by omega,by first | rfl | go_num,HQY,HY⟩
  ·obtain rfl:gk=1:=by omega
   go_upto_region 7 with fail;go_quiet (fail)
   have HY:Hid (RR (wr.drewN nq) b s X (.slice AA L.length cc) L 0∧Stp w (wr.drewN nq) b (.slice AA L.length cc) (.slice AA L.length cc)):=Qh ⟨HX.out.1.below (qaa (Below.refl _ _) nq),HX.out.2.trans (Stp.of_below (qaa (Below.refl _ _) nq) b _)⟩
   have HQY:Hid (Row (wr.drewN nq) B 122 [.string ⟨#[110,117,108,108]⟩, .string ⟨#[116,114,117,101]⟩, .string ⟨#[102,97,108,115,101]⟩]):=Qh (HQ.out.below (qaa (Below.refl _ _) nq) HQ.out.lt)
   clear HX HQ q0 q1 q2;generalize wr.drewN nq=wy at*;go_wp2_with fail;go_roundg 0
   case measure=> omega
   case rel=> exact ⟨3,rfl,by omega,by first | rfl | go_num,HQY,HY⟩
  ·obtain rfl:gk=0:=by omega
   have HY:=HX
   clear HX HQ q0 q1 q2;have HN:=Qh (qen wr X (Nat.le_trans HY.out.1.len hs))
   rw [HTT.out]at HN
   by_cases hfull:50≤d∨5000≤L.length
   ·have HRR:=Qh (show R= .err 2 by rw [HR.out,if_pos hfull])
    have HF:=Qh (js_rfail' 2 HY.out.1)
    obtain ⟨c2,ff⟩:=HY.out.1.cell2
    by_cases h50:d=50
    ·have h50':(d:Int)=50:=by omega
     have h50a:(50:Int)≤(d:Int):=by omega
     have h50b:decide ((50:Int)≤(d:Int))=true:=decide_eq_true h50a
     clear hfull;go_wp2_with fail;refine HF.out.mono ?_
     rintro en w4 ⟨rfl,HZ⟩;clear HF;go_wp2_with fail;go_ret;rw [HRR.out];exact ⟨rfl,by decide,_,_,_,Qh ⟨HZ.out.1,HY.out.2.trans HZ.out.2⟩⟩
    ·have h50a:¬(50:Int)≤(d:Int):=by omega
     have h50b:decide ((50:Int)≤(d:Int))=false:=decide_eq_false h50a
     have hl5:(5000:Int)≤(L.length:Int):=by omega
     have hl6:decide ((5000:Int)≤(L.length:Int))=true:=decide_eq_true hl5
     clear hfull;go_wp2_with fail;refine HF.out.mono ?_
     rintro en w4 ⟨rfl,HZ⟩;clear HF;go_wp2_with fail;go_ret;rw [HRR.out];exact ⟨rfl,by decide,_,_,_,Qh ⟨HZ.out.1,HY.out.2.trans HZ.out.2⟩⟩
   ·have hRR:R=numberF key X:=by rw [HR.out,if_neg hfull,HX0.out]
    have h50a:¬(50:Int)≤(d:Int):=by omega
    have h50b:decide ((50:Int)≤(d:Int))=false:=decide_eq_false h50a
    have hl5:¬(5000:Int)≤(L.length:Int):=by omega
    have hl6:decide ((5000:Int)≤(L.length:Int))=false:=decide_eq_false hl5
    obtain ⟨c2,ff⟩:=HY.out.1.cell2
    unfold numberF at hRR;by_cases hn0:numF X=0
    ·rw [if_pos hn0]at hRR
     have HRR:=Qh hRR
     clear hRR hfull;have HF:=Qh (js_rfail' 3 HY.out.1)
     rw [hn0]at HN
     clear hn0;go_wp2_with fail;refine HN.out.mono ?_
     rintro en w4 ⟨rfl,rfl⟩;clear HN;go_wp2_with fail;refine HF.out.mono ?_
     rintro en w5 ⟨rfl,HZ⟩;clear HF;go_wp2_with fail;go_ret;rw [HRR.out];exact ⟨rfl,by decide,_,_,_,Qh ⟨HZ.out.1,HY.out.2.trans HZ.out.2⟩⟩
    ·rw [if_neg hn0]at hRR
     have HRR:=Qh hRR
     have hd5:d < 50:=by omega
     have hL5:L.length < 5000:=by omega
     have hnl:=qkw X
     have hup:=qkc X (numF X)
     rw [HTT.out]at hup
     obtain ⟨p,hp,hq,hr⟩:=HY.out.1
     have hpl:p+numF X≤s.length:=by
      have:=congrArg List.length hq
      rw [List.length_drop]at this
      omega
     have HA:Hid (RR (wr.setCell ⟨b,1,none⟩ (.int .i64 ((p:Int)+(numF X:Int)))) b s (X.drop (numF X)) (.slice AA L.length cc) L 0∧Stp wr (wr.setCell ⟨b,1,none⟩ (.int .i64 ((p:Int)+(numF X:Int)))) b (.slice AA L.length cc) (.slice AA L.length cc)):=Qh (hr.adv hq (numF X) hpl)
     have HP:=Qh (qe0 _ b s _ _ L 3 0 key (X.take (numF X)) d HA.out.1 hd5 hL5)
     obtain ⟨_,c1,_,_⟩:=hr.cells
     have ff1:=hr.row.frozen 1
     rw [hxl]at hnl
     clear hRR hfull hd5 hL5 hr hq hp;generalize numF X=n at*;have hni:¬(n:Int)=0:=by omega
     have hnb:((n:Int)==0)=false:=beq_eq_false_iff_ne.2 hni
     have hn1:(n:Int)≤(r.length:Int)+1:=by omega
     have hpn:(p:Int)+(n:Int)≤1000000000:=by omega
     have hpn0:(0:Int)≤(p:Int)+(n:Int):=by omega
     generalize sb (X.take n)=T4 at*;clear hn0 hnl hpl;go_wp2_with fail;refine HN.out.mono ?_
     rintro en w4 ⟨rfl,rfl⟩;clear HN;go_wp2_with fail;refine HP.out.mono ?_
     rintro en w5 ⟨rfl,v5,HZ⟩;clear HP;go_wp2_with fail;go_ret;rw [HRR.out];exact ⟨rfl,v5,Qh ⟨HZ.out.1,HY.out.2.trans (HA.out.2.trans HZ.out.2)⟩⟩
theorem qq7 (w:World) (b:Nat) (s u:List UInt8) (v:Value) (L:List V) (d:Nat) (key:List UInt8) (a:UInt8) (r:List UInt8) (hD:isD a=true) (h:RR w b s u v L 0) (hx:skip u=a::r) (hs:s.length≤1000000000) (hL:L.length≤5000) (hd:d≤50) (R:Res) (hR:R=if 50≤d∨5000≤L.length then .err 2 else numberF key (a::r)):
  Calls Tryz.prog 63 #[.pointer (some ⟨b,0,none⟩), .string (sb key), .int .i64 (d:Int)] w (RVPost b s v L w R):=by
 have HK0:=Qh h.own.vals
 have HK:=Qh (js_rskip' h hs)
 rw [hx]at HK
 have hss:skip (a::r)=a::r:=by rw [←hx,qa3]
 clear hx h
 have HR:=Qh hR
 clear hR
 obtain ⟨AA,cc,hvv, -⟩:∃AA cc,v= .slice AA L.length cc∧True:=by
  obtain ⟨A,c,e,_⟩:=HK0.out
  exact ⟨A,c,e,trivial⟩
 subst hvv
 clear HK0
 have h1:¬(sb (a::r)).toList=[]:=by rw [qab];exact List.cons_ne_nil _ _
 have h2:(sb (a::r)).toList.isEmpty=false:=by rw [qab];rfl
 have h3:(sb (a::r)).size=r.length+1:=by rw [qag,List.length_cons]
 have hix:∀W,(Instr.index 9 (.string (sb (a::r))) (.int .i64 0)).run Tryz.prog W= .ok (.int .u8 (n8 a)) W:=fun W=> qam (a::r) 0 (by simp) W
 have hgt:(0:Int) < (r.length:Int)+1:=by omega
 have hgt2:decide ((0:Int) < (r.length:Int)+1)=true:=decide_eq_true hgt
 have HXX:=Qh (rfl:a::r=a::r)
 have w0:((⟨#[110,117,108,108]⟩:ByteArray)[0]'(by decide)).toNat=110:=rfl
 have w1':((⟨#[116,114,117,101]⟩:ByteArray)[0]'(by decide)).toNat=116:=rfl
 have w2':((⟨#[102,97,108,115,101]⟩:ByteArray)[0]'(by decide)).toNat=102:=rfl
 have z110:¬n8 a=110:=fun e=> by rw [n8_is (x:=a) (c:=110) e]at hD;revert hD;decide
 have y110:(n8 a==110)=false:=beq_eq_false_iff_ne.2 z110
 have z116:¬n8 a=116:=fun e=> by rw [n8_is (x:=a) (c:=116) e]at hD;revert hD;decide
 have y116:(n8 a==116)=false:=beq_eq_false_iff_ne.2 z116
 have z102:¬n8 a=102:=fun e=> by rw [n8_is (x:=a) (c:=102) e]at hD;revert hD;decide
 have y102:(n8 a==102)=false:=beq_eq_false_iff_ne.2 z102
 have z34:¬n8 a=34:=fun e=> by rw [n8_is (x:=a) (c:=34) e]at hD;revert hD;decide
 have y34:(n8 a==34)=false:=beq_eq_false_iff_ne.2 z34
 have z91:¬n8 a=91:=fun e=> by rw [n8_is (x:=a) (c:=91) e]at hD;revert hD;decide
 have y91:(n8 a==91)=false:=beq_eq_false_iff_ne.2 z91
 have z123:¬n8 a=123:=fun e=> by rw [n8_is (x:=a) (c:=123) e]at hD;revert hD;decide
 have y123:(n8 a==123)=false:=beq_eq_false_iff_ne.2 z123
 have z45:¬n8 a=45:=fun e=> by rw [n8_is (x:=a) (c:=45) e]at hD;revert hD;decide
 have y45:(n8 a==45)=false:=beq_eq_false_iff_ne.2 z45
 have h48:48≤n8 a:=by have:=(qdt.1 hD).1;unfold n8;omega
 have h57:n8 a≤57:=by have:=(qdt.1 hD).2;unfold n8;omega
 have h48b:decide (48≤n8 a)=true:=decide_eq_true h48
 have h57b:decide (n8 a≤57)=true:=decide_eq_true h57
 clear hD
 obtain ⟨X,hX⟩:∃X,X=a::r:=⟨_,rfl⟩
 rw [←hX]at HK h1 h2 h3 hix hss
 have HX0:=Qh hX
 clear hX HXX
 have hxl:X.length=r.length+1:=by rw [HX0.out,List.length_cons]
 generalize n8 a=z at*
 go_enter Tryz.func63,Tryz.ntmps63
 go_wp2_with fail
 refine HK.out.mono ?_
 rintro en w1 ⟨rfl,HX⟩
 clear HK
 obtain ⟨p,hp,hq,hr⟩:=HX.out.1
 obtain ⟨c0,c1,c2,c3⟩:=hr.cells
 have hz:=qag s
 have hcut:=qbg s p
 rw [hq]at hcut
 have hpi:(p:Int)≤(s.length:Int):=by omega
 have hbl:=hr.row.lt
 clear hr hq c2 c3
 generalize sb s=S at*
 generalize hTT:sb X=T at*
 have HTT:=Qh hTT
 clear hTT
 go_upto_region 2 with fail
 go_quiet (fail)
 have HX2:Hid (RR (w1.drewN nq) b s X (.slice AA L.length cc) L 0∧Stp w (w1.drewN nq) b (.slice AA L.length cc) (.slice AA L.length cc)):=Qh ⟨HX.out.1.below (qaa (Below.refl _ _) nq),HX.out.2.trans (Stp.of_below (qaa (Below.refl _ _) nq) b _)⟩
 have hbl2:b < (w1.drewN nq).heap.size:=hbl
 clear HX c0 c1 hbl hcut hpi hp hz
 generalize w1.drewN nq=w2 at*
 have R2:Hid (Row (w2.alloc (.cells #[.string ⟨#[]⟩, .string ⟨#[]⟩, .string ⟨#[]⟩] 122)) w2.heap.size 122 [.string ⟨#[]⟩, .string ⟨#[]⟩, .string ⟨#[]⟩]):=Qh (Row.new w2 _ _)
 go_upto_region 3 with fail
 go_wp2_with ((with_reducible refine qaf ?_ 122 (.tmp 8) (.tmp 26) ?_ w2.heap.size [.string ⟨#[110,117,108,108]⟩, .string ⟨#[116,114,117,101]⟩, .string ⟨#[102,97,108,115,101]⟩] ?_ ?_ _ ?_ R2.out ?_ ?_ ?_);rfl;rfl;go_must (rfl;rfl;rfl;kernel_rfl;exact qbu _ _ _;intro w3 R3 K3 E3))
 have hB3:Below w2.heap.size w2 w3:=(qac w2 _).trans (K3.out.below (qac w2 _).size (fun k hk e=> by
  have:k=w2.heap.size:=e
  omega))
 have HX3:=Qh (And.intro (HX2.out.1.below hB3) (HX2.out.2.trans (Stp.of_below hB3 b _)))
 clear HX2 R2 K3 E3 hB3 hbl2
 generalize w2.heap.size=B at*
 go_wp2_with fail
 go_loopg [9] 3 (fun g v9 wx=> ∃j:Nat,j+g=3∧j≤3∧v9= .int .i64 (j:Int)∧Hid (Row wx B 122 [.string ⟨#[110,117,108,108]⟩, .string ⟨#[116,114,117,101]⟩, .string ⟨#[102,97,108,115,101]⟩])∧Hid (RR wx b s X (.slice AA L.length cc) L 0∧Stp w wx b (.slice AA L.length cc) (.slice AA L.length cc)))
 case atStart=> exact ⟨0,rfl,Nat.zero_le _,rfl,R3,HX3⟩
 case round=>
  clear R3 HX3;obtain ⟨j,hj,hjI,rfl,HQ,HX⟩:=hrel
  have q0:wr.cell? ⟨B,0,none⟩=some (.string ⟨#[110,117,108,108]⟩):=HQ.out.cell rfl
  have q1:wr.cell? ⟨B,1,none⟩=some (.string ⟨#[116,114,117,101]⟩):=HQ.out.cell rfl
  have q2:wr.cell? ⟨B,2,none⟩=some (.string ⟨#[102,97,108,115,101]⟩):=HQ.out.cell rfl
  have hj3:j=0∨j=1∨j=2∨j=3:=by omega
  rcases hj3 with rfl | rfl | rfl | rfl
  ·obtain rfl:gk=3:=by omega
   go_upto_region 7 with fail;go_quiet (fail)
   have HY:Hid (RR (wr.drewN nq) b s X (.slice AA L.length cc) L 0∧Stp w (wr.drewN nq) b (.slice AA L.length cc) (.slice AA L.length cc)):=Qh ⟨HX.out.1.below (qaa (Below.refl _ _) nq),HX.out.2.trans (Stp.of_below (qaa (Below.refl _ _) nq) b _)⟩
   have HQY:Hid (Row (wr.drewN nq) B 122 [.string ⟨#[110,117,108,108]⟩, .string ⟨#[116,114,117,101]⟩, .string ⟨#[102,97,108,115,101]⟩]):=Qh (HQ.out.below (qaa (Below.refl _ _) nq) HQ.out.lt)
   clear HX HQ q0 q1 q2;generalize wr.drewN nq=wy at*;go_wp2_with fail;go_roundg 2
   case measure=> omega
   case rel=> exact ⟨1,rfl,by omega,by first | rfl | go_num,HQY,HY⟩
  ·obtain rfl:gk=2:=by omega
   go_upto_region 7 with fail;go_quiet (fail)
   have HY:Hid (RR (wr.drewN nq) b s X (.slice AA L.length cc) L 0∧Stp w (wr.drewN nq) b (.slice AA L.length cc) (.slice AA L.length cc)):=Qh ⟨HX.out.1.below (qaa (Below.refl _ _) nq),HX.out.2.trans (Stp.of_below (qaa (Below.refl _ _) nq) b _)⟩
   have HQY:Hid (Row (wr.drewN nq) B 122 [.string ⟨#[110,117,108,108]⟩, .string ⟨#[116,114,117,101]⟩, .string ⟨#[102,97,108,115,101]⟩]):=Qh (HQ.out.below (qaa (Below.refl _ _) nq) HQ.out.lt)
   clear HX HQ q0 q1 q2;generalize wr.drewN nq=wy at*;go_wp2_with fail;go_roundg 1
   case measure=> omega
   case rel=> exact ⟨2,rfl,by omega,by first | rfl | go_num,HQY,HY⟩
  ·obtain rfl:gk=1:=by omega
   go_upto_region 7 with fail;go_quiet (fail)
   have HY:Hid (RR (wr.drewN nq) b s X (.slice AA L.length cc) L 0∧Stp w (wr.drewN nq) b (.slice AA L.length cc) (.slice AA L.length cc)):=Qh ⟨HX.out.1.below (qaa (Below.refl _ _) nq),HX.out.2.trans (Stp.of_below (qaa (Below.refl _ _) nq) b _)⟩
   have HQY:Hid (Row (wr.drewN nq) B 122 [.string ⟨#[110,117,108,108]⟩, .string ⟨#[116,114,117,101]⟩, .string ⟨#[102,97,108,115,101]⟩]):=Qh (HQ.out.below (qaa (Below.refl _ _) nq) HQ.out.lt)
   clear HX HQ q0 q1 q2;generalize wr.drewN nq=wy at*;go_wp2_with fail;go_roundg 0
   case measure=> omega
   case rel=> exact ⟨3,rfl,by omega,by first | rfl | go_num,HQY,HY⟩
  ·obtain rfl:gk=0:=by omega
   have HY:=HX
   clear HX HQ q0 q1 q2;have HN:=Qh (qen wr X (Nat.le_trans HY.out.1.len hs))
   rw [HTT.out]at HN
   by_cases hfull:50≤d∨5000≤L.length
   ·have HRR:=Qh (show R= .err 2 by rw [HR.out,if_pos hfull])
    have HF:=Qh (js_rfail' 2 HY.out.1)
    obtain ⟨c2,ff⟩:=HY.out.1.cell2
    by_cases h50:d=50
    ·have h50':(d:Int)=50:=by omega
     have h50a:(50:Int)≤(d:Int):=by omega
     have h50b:decide ((50:Int)≤(d:Int))=true:=decide_eq_true h50a
     clear hfull;go_wp2_with fail;refine HF.out.mono ?_
     rintro en w4 ⟨rfl,HZ⟩;clear HF;go_wp2_with fail;go_ret;rw [HRR.out];exact ⟨rfl,by decide,_,_,_,Qh ⟨HZ.out.1,HY.out.2.trans HZ.out.2⟩⟩
    ·have h50a:¬(50:Int)≤(d:Int):=by omega
     have h50b:decide ((50:Int)≤(d:Int))=false:=decide_eq_false h50a
     have hl5:(5000:Int)≤(L.length:Int):=by omega
     have hl6:decide ((5000:Int)≤(L.length:Int))=true:=decide_eq_true hl5
     clear hfull;go_wp2_with fail;refine HF.out.mono ?_
     rintro en w4 ⟨rfl,HZ⟩;clear HF;go_wp2_with fail;go_ret;rw [HRR.out];exact ⟨rfl,by decide,_,_,_,Qh ⟨HZ.out.1,HY.out.2.trans HZ.out.2⟩⟩
   ·have hRR:R=numberF key X:=by rw [HR.out,if_neg hfull,HX0.out]
    have h50a:¬(50:Int)≤(d:Int):=by omega
    have h50b:decide ((50:Int)≤(d:Int))=false:=decide_eq_false h50a
    have hl5:¬(5000:Int)≤(L.length:Int):=by omega
    have hl6:decide ((5000:Int)≤(L.length:Int))=false:=decide_eq_false hl5
    obtain ⟨c2,ff⟩:=HY.out.1.cell2
    unfold numberF at hRR;by_cases hn0:numF X=0
    ·rw [if_pos hn0]at hRR
     have HRR:=Qh hRR
     clear hRR hfull;have HF:=Qh (js_rfail' 3 HY.out.1)
     rw [hn0]at HN
     clear hn0;go_wp2_with fail;refine HN.out.mono ?_
     rintro en w4 ⟨rfl,rfl⟩;clear HN;go_wp2_with fail;refine HF.out.mono ?_
     rintro en w5 ⟨rfl,HZ⟩;clear HF;go_wp2_with fail;go_ret;rw [HRR.out];exact ⟨rfl,by decide,_,_,_,Qh ⟨HZ.out.1,HY.out.2.trans HZ.out.2⟩⟩
    ·rw [if_neg hn0]at hRR
     have HRR:=Qh hRR
     have hd5:d < 50:=by omega
     have hL5:L.length < 5000:=by omega
     have hnl:=qkw X
     have hup:=qkc X (numF X)
     rw [HTT.out]at hup
     obtain ⟨p,hp,hq,hr⟩:=HY.out.1
     have hpl:p+numF X≤s.length:=by
      have:=congrArg List.length hq
      rw [List.length_drop]at this
      omega
     have HA:Hid (RR (wr.setCell ⟨b,1,none⟩ (.int .i64 ((p:Int)+(numF X:Int)))) b s (X.drop (numF X)) (.slice AA L.length cc) L 0∧Stp wr (wr.setCell ⟨b,1,none⟩ (.int .i64 ((p:Int)+(numF X:Int)))) b (.slice AA L.length cc) (.slice AA L.length cc)):=Qh (hr.adv hq (numF X) hpl)
     have HP:=Qh (qe0 _ b s _ _ L 3 0 key (X.take (numF X)) d HA.out.1 hd5 hL5)
     obtain ⟨_,c1,_,_⟩:=hr.cells
     have ff1:=hr.row.frozen 1
     rw [hxl]at hnl
     clear hRR hfull hd5 hL5 hr hq hp;generalize numF X=n at*;have hni:¬(n:Int)=0:=by omega
     have hnb:((n:Int)==0)=false:=beq_eq_false_iff_ne.2 hni
     have hn1:(n:Int)≤(r.length:Int)+1:=by omega
     have hpn:(p:Int)+(n:Int)≤1000000000:=by omega
     have hpn0:(0:Int)≤(p:Int)+(n:Int):=by omega
     generalize sb (X.take n)=T4 at*;clear hn0 hnl hpl;go_wp2_with fail;refine HN.out.mono ?_
     rintro en w4 ⟨rfl,rfl⟩;clear HN;go_wp2_with fail;refine HP.out.mono ?_
     rintro en w5 ⟨rfl,v5,HZ⟩;clear HP;go_wp2_with fail;go_ret;rw [HRR.out];exact ⟨rfl,v5,Qh ⟨HZ.out.1,HY.out.2.trans (HA.out.2.trans HZ.out.2)⟩⟩
theorem quz (w:World) (b:Nat) (s u:List UInt8) (v:Value) (L:List V) (d:Nat) (key:List UInt8) (a:UInt8) (r:List UInt8) (ha:a=91) (g:Nat) (hV:∀g2,g2 < g→RValP g2) (hg:r.length < g) (h:RR w b s u v L 0) (hx:skip u=a::r) (hs:s.length≤1000000000) (hL:L.length≤5000) (hd:d≤50) (R:Res) (hR:R=if 50≤d∨5000≤L.length then .err 2 else groupF (fun s=> kids g false (d+1) (L.length+1) [] s) 5 key 93 r):
  Calls Tryz.prog 63 #[.pointer (some ⟨b,0,none⟩), .string (sb key), .int .i64 (d:Int)] w (RVPost b s v L w R):=by
 subst ha
 have HKI:=Qh (fun (w6:World) (v6:Value) (h6:RR w6 b s r v6 (L++[⟨5,key,[],0⟩]) 0) (hl:L.length < 5000) (hd5:d < 50)=> qpb g hV w6 b s r v6 L key false d h6 hs hg hl hd5)
 change Hid (∀w6 v6,RR w6 b s r v6 (L++[⟨5,key,[],0⟩]) 0→_→_→Calls _ _ #[_,_,_, .string ⟨#[93]⟩] _ (RVPost b s v6 L w6 (groupF (fun s=> kids g false (d+1) (L.length+1) [] s) 5 key 93 r)))at HKI
 clear hV hg
 have HK0:=Qh h.own.vals
 have HK:=Qh (js_rskip' h hs)
 rw [hx]at HK
 have hss:skip (91::r)=91::r:=by rw [←hx,qa3]
 clear hx h
 have HR:=Qh hR
 clear hR
 obtain ⟨AA,cc,hvv, -⟩:∃AA cc,v= .slice AA L.length cc∧True:=by
  obtain ⟨A,c,e,_⟩:=HK0.out
  exact ⟨A,c,e,trivial⟩
 subst hvv
 clear HK0
 have h1:¬(sb (91::r)).toList=[]:=by rw [qab];exact List.cons_ne_nil _ _
 have h2:(sb (91::r)).toList.isEmpty=false:=by rw [qab];rfl
 have h3:(sb (91::r)).size=r.length+1:=by rw [qag,List.length_cons]
 have hix:∀W,(Instr.index 9 (.string (sb (91::r))) (.int .i64 0)).run Tryz.prog W= .ok (.int .u8 91) W:=fun W=> qam (91::r) 0 (by simp) W
 have hgt:(0:Int) < (r.length:Int)+1:=by omega
 have hgt2:decide ((0:Int) < (r.length:Int)+1)=true:=decide_eq_true hgt
 have HXX:=Qh (rfl:91::r=91::r)
 obtain ⟨X,hX⟩:∃X,X=91::r:=⟨_,rfl⟩
 rw [←hX]at HK h1 h2 h3 hix hss
 have HX0:=Qh hX
 clear hX HXX
 have hxl:X.length=r.length+1:=by rw [HX0.out,List.length_cons]
 go_enter Tryz.func63,Tryz.ntmps63
 go_wp2_with fail
 refine HK.out.mono ?_
 rintro en w1 ⟨rfl,HX⟩
 clear HK
 obtain ⟨p,hp,hq,hr⟩:=HX.out.1
 obtain ⟨c0,c1,c2,c3⟩:=hr.cells
 have hz:=qag s
 have hcut:=qbg s p
 rw [hq]at hcut
 have hpi:(p:Int)≤(s.length:Int):=by omega
 have hbl:=hr.row.lt
 clear hr hq c2 c3
 generalize sb s=S at*
 generalize hTT:sb X=T at*
 have HTT:=Qh hTT
 clear hTT
 go_upto_region 2 with fail
 go_quiet (fail)
 have HX2:Hid (RR (w1.drewN nq) b s X (.slice AA L.length cc) L 0∧Stp w (w1.drewN nq) b (.slice AA L.length cc) (.slice AA L.length cc)):=Qh ⟨HX.out.1.below (qaa (Below.refl _ _) nq),HX.out.2.trans (Stp.of_below (qaa (Below.refl _ _) nq) b _)⟩
 have hbl2:b < (w1.drewN nq).heap.size:=hbl
 clear HX c0 c1 hbl hcut hpi hp hz
 generalize w1.drewN nq=w2 at*
 have R2:Hid (Row (w2.alloc (.cells #[.string ⟨#[]⟩, .string ⟨#[]⟩, .string ⟨#[]⟩] 122)) w2.heap.size 122 [.string ⟨#[]⟩, .string ⟨#[]⟩, .string ⟨#[]⟩]):=Qh (Row.new w2 _ _)
 go_upto_region 3 with fail
 go_wp2_with ((with_reducible refine qaf ?_ 122 (.tmp 8) (.tmp 26) ?_ w2.heap.size [.string ⟨#[110,117,108,108]⟩, .string ⟨#[116,114,117,101]⟩, .string ⟨#[102,97,108,115,101]⟩] ?_ ?_ _ ?_ R2.out ?_ ?_ ?_);rfl;rfl;go_must (rfl;rfl;rfl;kernel_rfl;exact qbu _ _ _;intro w3 R3 K3 E3))
 have hB3:Below w2.heap.size w2 w3:=(qac w2 _).trans (K3.out.below (qac w2 _).size (fun k hk e=> by
  have:k=w2.heap.size:=e
  omega))
 have HX3:=Qh (And.intro (HX2.out.1.below hB3) (HX2.out.2.trans (Stp.of_below hB3 b _)))
 clear HX2 R2 K3 E3 hB3 hbl2
 generalize w2.heap.size=B at*
 go_wp2_with fail
 go_loopg [9] 3 (fun g v9 wx=> ∃j:Nat,j+g=3∧j≤3∧v9= .int .i64 (j:Int)∧Hid (Row wx B 122 [.string ⟨#[110,117,108,108]⟩, .string ⟨#[116,114,117,101]⟩, .string ⟨#[102,97,108,115,101]⟩])∧Hid (RR wx b s X (.slice AA L.length cc) L 0∧Stp w wx b (.slice AA L.length cc) (.slice AA L.length cc)))
 case atStart=> exact ⟨0,rfl,Nat.zero_le _,rfl,R3,HX3⟩
 case round=>
  clear R3 HX3;obtain ⟨j,hj,hjI,rfl,HQ,HX⟩:=hrel
  have q0:wr.cell? ⟨B,0,none⟩=some (.string ⟨#[110,117,108,108]⟩):=HQ.out.cell rfl
  have q1:wr.cell? ⟨B,1,none⟩=some (.string ⟨#[116,114,117,101]⟩):=HQ.out.cell rfl
  have q2:wr.cell? ⟨B,2,none⟩=some (.string ⟨#[102,97,108,115,101]⟩):=HQ.out.cell rfl
  have hj3:j=0∨j=1∨j=2∨j=3:=by omega
  rcases hj3 with rfl | rfl | rfl | rfl
  ·obtain rfl:gk=3:=by omega
   go_upto_region 7 with fail;go_quiet (fail)
   have HY:Hid (RR (wr.drewN nq) b s X (.slice AA L.length cc) L 0∧Stp w (wr.drewN nq) b (.slice AA L.length cc) (.slice AA L.length cc)):=Qh ⟨HX.out.1.below (qaa (Below.refl _ _) nq),HX.out.2.trans (Stp.of_below (qaa (Below.refl _ _) nq) b _)⟩
   have HQY:Hid (Row (wr.drewN nq) B 122 [.string ⟨#[110,117,108,108]⟩, .string ⟨#[116,114,117,101]⟩, .string ⟨#[102,97,108,115,101]⟩]):=Qh (HQ.out.below (qaa (Below.refl _ _) nq) HQ.out.lt)
   clear HX HQ q0 q1 q2;generalize wr.drewN nq=wy at*;go_wp2_with fail;go_roundg 2
   case measure=> omega
   case rel=> exact ⟨1,rfl,by omega,by first | rfl | go_num,HQY,HY⟩
  ·obtain rfl:gk=2:=by omega
   go_upto_region 7 with fail;go_quiet (fail)
   have HY:Hid (RR (wr.drewN nq) b s X (.slice AA L.length cc) L 0∧Stp w (wr.drewN nq) b (.slice AA L.length cc) (.slice AA L.length cc)):=Qh ⟨HX.out.1.below (qaa (Below.refl _ _) nq),HX.out.2.trans (Stp.of_below (qaa (Below.refl _ _) nq) b _)⟩
   have HQY:Hid (Row (wr.drewN nq) B 122 [.string ⟨#[110,117,108,108]⟩, .string ⟨#[116,114,117,101]⟩, .string ⟨#[102,97,108,115,101]⟩]):=Qh (HQ.out.below (qaa (Below.refl _ _) nq) HQ.out.lt)
   clear HX HQ q0 q1 q2;generalize wr.drewN nq=wy at*;go_wp2_with fail;go_roundg 1
   case measure=> omega
   case rel=> exact ⟨2,rfl,by omega,by first | rfl | go_num,HQY,HY⟩
  ·obtain rfl:gk=1:=by omega
   go_upto_region 7 with fail;go_quiet (fail)
   have HY:Hid (RR (wr.drewN nq) b s X (.slice AA L.length cc) L 0∧Stp w (wr.drewN nq) b (.slice AA L.length cc) (.slice AA L.length cc)):=Qh ⟨HX.out.1.below (qaa (Below.refl _ _) nq),HX.out.2.trans (Stp.of_below (qaa (Below.refl _ _) nq) b _)⟩
   have HQY:Hid (Row (wr.drewN nq) B 122 [.string ⟨#[110,117,108,108]⟩, .string ⟨#[116,114,117,101]⟩, .string ⟨#[102,97,108,115,101]⟩]):=Qh (HQ.out.below (qaa (Below.refl _ _) nq) HQ.out.lt)
   clear HX HQ q0 q1 q2;generalize wr.drewN nq=wy at*;go_wp2_with fail;go_roundg 0
   case measure=> omega
   case rel=> exact ⟨3,rfl,by omega,by first | rfl | go_num,HQY,HY⟩
  ·obtain rfl:gk=0:=by omega
   have HY:=HX
   clear HX HQ q0 q1 q2;by_cases hfull:50≤d∨5000≤L.length
   ·have HRR:=Qh (show R= .err 2 by rw [HR.out,if_pos hfull])
    have HF:=Qh (js_rfail' 2 HY.out.1)
    obtain ⟨c2,ff⟩:=HY.out.1.cell2
    by_cases h50:d=50
    ·have h50':(d:Int)=50:=by omega
     have h50a:(50:Int)≤(d:Int):=by omega
     have h50b:decide ((50:Int)≤(d:Int))=true:=decide_eq_true h50a
     clear hfull;go_wp2_with fail;refine HF.out.mono ?_
     rintro en w4 ⟨rfl,HZ⟩;clear HF;go_wp2_with fail;go_ret;rw [HRR.out];exact ⟨rfl,by decide,_,_,_,Qh ⟨HZ.out.1,HY.out.2.trans HZ.out.2⟩⟩
    ·have h50a:¬(50:Int)≤(d:Int):=by omega
     have h50b:decide ((50:Int)≤(d:Int))=false:=decide_eq_false h50a
     have hl5:(5000:Int)≤(L.length:Int):=by omega
     have hl6:decide ((5000:Int)≤(L.length:Int))=true:=decide_eq_true hl5
     clear hfull;go_wp2_with fail;refine HF.out.mono ?_
     rintro en w4 ⟨rfl,HZ⟩;clear HF;go_wp2_with fail;go_ret;rw [HRR.out];exact ⟨rfl,by decide,_,_,_,Qh ⟨HZ.out.1,HY.out.2.trans HZ.out.2⟩⟩
   ·have hRR:R=groupF (fun s=> kids g false (d+1) (L.length+1) [] s) 5 key 93 r:=by rw [HR.out,if_neg hfull]
    have h50a:¬(50:Int)≤(d:Int):=by omega
    have h50b:decide ((50:Int)≤(d:Int))=false:=decide_eq_false h50a
    have hl5:¬(5000:Int)≤(L.length:Int):=by omega
    have hl6:decide ((5000:Int)≤(L.length:Int))=false:=decide_eq_false hl5
    obtain ⟨c2,ff⟩:=HY.out.1.cell2
    have hd5:d < 50:=by omega
    have hL5:L.length < 5000:=by omega
    obtain ⟨p,hp,hq,hr⟩:=HY.out.1
    have hpl:p+1≤s.length:=by
     have:=congrArg List.length hq
     rw [List.length_drop]at this
     omega
    have HA:Hid (RR (wr.setCell ⟨b,1,none⟩ (.int .i64 ((p:Int)+1))) b s r (.slice AA L.length cc) L 0∧Stp wr (wr.setCell ⟨b,1,none⟩ (.int .i64 ((p:Int)+1))) b (.slice AA L.length cc) (.slice AA L.length cc)):=Qh (by
     have:=hr.adv hq 1 hpl
     rw [HX0.out]at this
     exact this)
    obtain ⟨_,c1,_,_⟩:=hr.cells
    have ff1:=hr.row.frozen 1
    have hp1:(p:Int)+1≤1000000000:=by omega
    have hp0:(0:Int)≤(p:Int)+1:=by omega
    have hll:(L++[(⟨5,key,[],0⟩:V)]).length=L.length+1:=by rw [List.length_append,List.length_singleton]
    have HKJ:=Qh (fun w6 v6 h6=> HKI.out w6 v6 h6 hL5 hd5)
    rw [←hRR]at HKJ
    clear HR hRR hfull hr hq hp hpl HKI HX0 HTT hd5 hL5;go_upto_region 26 with fail;generalize wr.setCell ⟨b,1,none⟩ (.int .i64 ((p:Int)+1))=w4 at*;obtain ⟨c2',ff'⟩:=HA.out.1.cell2
    have hbw:=HA.out.1.lt
    clear c2 ff c1 ff1;have HB4:=qac w4 (.cells #[.int .i64 5, .string (sb key), .string ⟨#[]⟩, .int .i64 0] 72)
    have HVA:Hid (ValsAt (w4.alloc (.cells #[.int .i64 5, .string (sb key), .string ⟨#[]⟩, .int .i64 0] 72)) (some ⟨w4.heap.size,0,none⟩) 1 1 [⟨5,key,[],0⟩]):=Qh (ValsAt.lay (Row.new w4 72 (cellsV [⟨5,key,[],0⟩])) 1 rfl)
    have HOW:=Qh (HA.out.1.own.below HB4)
    have HBL:=Qh HB4
    clear HB4;go_wp2_with (first
     | (with_reducible refine qdm rfl _ rfl 5 (sb key) ⟨#[]⟩ 0 rfl ?_)
     | (at_builtin;go_must (with_reducible refine qa6 rfl _ _ rfl (b+1) (.slice AA L.length cc) L rfl HOW.out ⟨w4.heap.size,0,none⟩ 1 1 [⟨5,key,[],0⟩] rfl HVA.out (by omega) (by simp;omega) ?_;intro v2 w5 h1 h2 h3;obtain ⟨g2,n2,rfl, -⟩:=h1.out.got (by rw [hll];omega);rw [hll]at h1 h3;obtain ⟨hc2,hf2⟩:=HA.out.1.slot HBL.out h2.out;have HGR:=Qh (HA.out.1.grow HBL.out h1.out h2.out h3.out);clear h1 h2 h3)))
    have HKK:=Qh (HKJ.out _ _ HGR.out.1)
    have HST:=Qh (HY.out.2.trans (HA.out.2.trans HGR.out.2))
    clear HKJ HGR HA HVA HOW HBL HY;refine HKK.out.mono ?_
    intro en w7 hpp;clear HKK;cases R with
    | ok m l rr=>
     obtain ⟨rfl,v7,HZ⟩:=hpp
     go_wp2_with fail;go_ret;exact ⟨rfl,v7,Qh ⟨HZ.out.1,HST.out.trans HZ.out.2⟩⟩
    | err ec=>
     obtain ⟨rfl,hc0,u7,v7,L7,HZ⟩:=hpp
     go_wp2_with fail;go_ret;exact ⟨rfl,hc0,u7,v7,L7,Qh ⟨HZ.out.1,HST.out.trans HZ.out.2⟩⟩
theorem qvh (w:World) (b:Nat) (s u:List UInt8) (v:Value) (L:List V) (d:Nat) (key:List UInt8) (a:UInt8) (r:List UInt8) (ha:a=123) (g:Nat) (hV:∀g2,g2 < g→RValP g2) (hg:r.length < g) (h:RR w b s u v L 0) (hx:skip u=a::r) (hs:s.length≤1000000000) (hL:L.length≤5000) (hd:d≤50) (R:Res) (hR:R=if 50≤d∨5000≤L.length then .err 2 else groupF (fun s=> kids g true (d+1) (L.length+1) [] s) 6 key 125 r):
  Calls Tryz.prog 63 #[.pointer (some ⟨b,0,none⟩), .string (sb key), .int .i64 (d:Int)] w (RVPost b s v L w R):=by
 subst ha
 have HKI:=Qh (fun (w6:World) (v6:Value) (h6:RR w6 b s r v6 (L++[⟨6,key,[],0⟩]) 0) (hl:L.length < 5000) (hd5:d < 50)=> qpb g hV w6 b s r v6 L key true d h6 hs hg hl hd5)
 change Hid (∀w6 v6,RR w6 b s r v6 (L++[⟨6,key,[],0⟩]) 0→_→_→Calls _ _ #[_,_,_, .string ⟨#[125]⟩] _ (RVPost b s v6 L w6 (groupF (fun s=> kids g true (d+1) (L.length+1) [] s) 6 key 125 r)))at HKI
 clear hV hg
 have HK0:=Qh h.own.vals
 have HK:=Qh (js_rskip' h hs)
 rw [hx]at HK
 have hss:skip (123::r)=123::r:=by rw [←hx,qa3]
 clear hx h
 have HR:=Qh hR
 clear hR
 obtain ⟨AA,cc,hvv, -⟩:∃AA cc,v= .slice AA L.length cc∧True:=by
  obtain ⟨A,c,e,_⟩:=HK0.out
  exact ⟨A,c,e,trivial⟩
 subst hvv
 clear HK0
 have h1:¬(sb (123::r)).toList=[]:=by rw [qab];exact List.cons_ne_nil _ _
 have h2:(sb (123::r)).toList.isEmpty=false:=by rw [qab];rfl
 have h3:(sb (123::r)).size=r.length+1:=by rw [qag,List.length_cons]
 have hix:∀W,(Instr.index 9 (.string (sb (123::r))) (.int .i64 0)).run Tryz.prog W= .ok (.int .u8 123) W:=fun W=> qam (123::r) 0 (by simp) W
 have hgt:(0:Int) < (r.length:Int)+1:=by omega
 have hgt2:decide ((0:Int) < (r.length:Int)+1)=true:=decide_eq_true hgt
 have HXX:=Qh (rfl:123::r=123::r)
 obtain ⟨X,hX⟩:∃X,X=123::r:=⟨_,rfl⟩
 rw [←hX]at HK h1 h2 h3 hix hss
 have HX0:=Qh hX
 clear hX HXX
 have hxl:X.length=r.length+1:=by rw [HX0.out,List.length_cons]
 go_enter Tryz.func63,Tryz.ntmps63
 go_wp2_with fail
 refine HK.out.mono ?_
 rintro en w1 ⟨rfl,HX⟩
 clear HK
 obtain ⟨p,hp,hq,hr⟩:=HX.out.1
 obtain ⟨c0,c1,c2,c3⟩:=hr.cells
 have hz:=qag s
 have hcut:=qbg s p
 rw [hq]at hcut
 have hpi:(p:Int)≤(s.length:Int):=by omega
 have hbl:=hr.row.lt
 clear hr hq c2 c3
 generalize sb s=S at*
 generalize hTT:sb X=T at*
 have HTT:=Qh hTT
 clear hTT
 go_upto_region 2 with fail
 go_quiet (fail)
 have HX2:Hid (RR (w1.drewN nq) b s X (.slice AA L.length cc) L 0∧Stp w (w1.drewN nq) b (.slice AA L.length cc) (.slice AA L.length cc)):=Qh ⟨HX.out.1.below (qaa (Below.refl _ _) nq),HX.out.2.trans (Stp.of_below (qaa (Below.refl _ _) nq) b _)⟩
 have hbl2:b < (w1.drewN nq).heap.size:=hbl
 clear HX c0 c1 hbl hcut hpi hp hz
 generalize w1.drewN nq=w2 at*
 have R2:Hid (Row (w2.alloc (.cells #[.string ⟨#[]⟩, .string ⟨#[]⟩, .string ⟨#[]⟩] 122)) w2.heap.size 122 [.string ⟨#[]⟩, .string ⟨#[]⟩, .string ⟨#[]⟩]):=Qh (Row.new w2 _ _)
 go_upto_region 3 with fail
 go_wp2_with ((with_reducible refine qaf ?_ 122 (.tmp 8) (.tmp 26) ?_ w2.heap.size [.string ⟨#[110,117,108,108]⟩, .string ⟨#[116,114,117,101]⟩, .string ⟨#[102,97,108,115,101]⟩] ?_ ?_ _ ?_ R2.out ?_ ?_ ?_);rfl;rfl;go_must (rfl;rfl;rfl;kernel_rfl;exact qbu _ _ _;intro w3 R3 K3 E3))
 have hB3:Below w2.heap.size w2 w3:=(qac w2 _).trans (K3.out.below (qac w2 _).size (fun k hk e=> by
  have:k=w2.heap.size:=e
  omega))
 have HX3:=Qh (And.intro (HX2.out.1.below hB3) (HX2.out.2.trans (Stp.of_below hB3 b _)))
 clear HX2 R2 K3 E3 hB3 hbl2
 generalize w2.heap.size=B at*
 go_wp2_with fail
 go_loopg [9] 3 (fun g v9 wx=> ∃j:Nat,j+g=3∧j≤3∧v9= .int .i64 (j:Int)∧Hid (Row wx B 122 [.string ⟨#[110,117,108,108]⟩, .string ⟨#[116,114,117,101]⟩, .string ⟨#[102,97,108,115,101]⟩])∧Hid (RR wx b s X (.slice AA L.length cc) L 0∧Stp w wx b (.slice AA L.length cc) (.slice AA L.length cc)))
 case atStart=> exact ⟨0,rfl,Nat.zero_le _,rfl,R3,HX3⟩
 case round=>
  clear R3 HX3;obtain ⟨j,hj,hjI,rfl,HQ,HX⟩:=hrel
  have q0:wr.cell? ⟨B,0,none⟩=some (.string ⟨#[110,117,108,108]⟩):=HQ.out.cell rfl
  have q1:wr.cell? ⟨B,1,none⟩=some (.string ⟨#[116,114,117,101]⟩):=HQ.out.cell rfl
  have q2:wr.cell? ⟨B,2,none⟩=some (.string ⟨#[102,97,108,115,101]⟩):=HQ.out.cell rfl
  have hj3:j=0∨j=1∨j=2∨j=3:=by omega
  rcases hj3 with rfl | rfl | rfl | rfl
  ·obtain rfl:gk=3:=by omega
   go_upto_region 7 with fail;go_quiet (fail)
   have HY:Hid (RR (wr.drewN nq) b s X (.slice AA L.length cc) L 0∧Stp w (wr.drewN nq) b (.slice AA L.length cc) (.slice AA L.length cc)):=Qh ⟨HX.out.1.below (qaa (Below.refl _ _) nq),HX.out.2.trans (Stp.of_below (qaa (Below.refl _ _) nq) b _)⟩
   have HQY:Hid (Row (wr.drewN nq) B 122 [.string ⟨#[110,117,108,108]⟩, .string ⟨#[116,114,117,101]⟩, .string ⟨#[102,97,108,115,101]⟩]):=Qh (HQ.out.below (qaa (Below.refl _ _) nq) HQ.out.lt)
   clear HX HQ q0 q1 q2;generalize wr.drewN nq=wy at*;go_wp2_with fail;go_roundg 2
   case measure=> omega
   case rel=> exact ⟨1,rfl,by omega,by first | rfl | go_num,HQY,HY⟩
  ·obtain rfl:gk=2:=by omega
   go_upto_region 7 with fail;go_quiet (fail)
   have HY:Hid (RR (wr.drewN nq) b s X (.slice AA L.length cc) L 0∧Stp w (wr.drewN nq) b (.slice AA L.length cc) (.slice AA L.length cc)):=Qh ⟨HX.out.1.below (qaa (Below.refl _ _) nq),HX.out.2.trans (Stp.of_below (qaa (Below.refl _ _) nq) b _)⟩
   have HQY:Hid (Row (wr.drewN nq) B 122 [.string ⟨#[110,117,108,108]⟩, .string ⟨#[116,114,117,101]⟩, .string ⟨#[102,97,108,115,101]⟩]):=Qh (HQ.out.below (qaa (Below.refl _ _) nq) HQ.out.lt)
   clear HX HQ q0 q1 q2;generalize wr.drewN nq=wy at*;go_wp2_with fail;go_roundg 1
   case measure=> omega
   case rel=> exact ⟨2,rfl,by omega,by first | rfl | go_num,HQY,HY⟩
  ·obtain rfl:gk=1:=by omega
   go_upto_region 7 with fail;go_quiet (fail)
   have HY:Hid (RR (wr.drewN nq) b s X (.slice AA L.length cc) L 0∧Stp w (wr.drewN nq) b (.slice AA L.length cc) (.slice AA L.length cc)):=Qh ⟨HX.out.1.below (qaa (Below.refl _ _) nq),HX.out.2.trans (Stp.of_below (qaa (Below.refl _ _) nq) b _)⟩
   have HQY:Hid (Row (wr.drewN nq) B 122 [.string ⟨#[110,117,108,108]⟩, .string ⟨#[116,114,117,101]⟩, .string ⟨#[102,97,108,115,101]⟩]):=Qh (HQ.out.below (qaa (Below.refl _ _) nq) HQ.out.lt)
   clear HX HQ q0 q1 q2;generalize wr.drewN nq=wy at*;go_wp2_with fail;go_roundg 0
   case measure=> omega
   case rel=> exact ⟨3,rfl,by omega,by first | rfl | go_num,HQY,HY⟩
  ·obtain rfl:gk=0:=by omega
   have HY:=HX
   clear HX HQ q0 q1 q2;by_cases hfull:50≤d∨5000≤L.length
   ·have HRR:=Qh (show R= .err 2 by rw [HR.out,if_pos hfull])
    have HF:=Qh (js_rfail' 2 HY.out.1)
    obtain ⟨c2,ff⟩:=HY.out.1.cell2
    by_cases h50:d=50
    ·have h50':(d:Int)=50:=by omega
     have h50a:(50:Int)≤(d:Int):=by omega
     have h50b:decide ((50:Int)≤(d:Int))=true:=decide_eq_true h50a
     clear hfull;go_wp2_with fail;refine HF.out.mono ?_
     rintro en w4 ⟨rfl,HZ⟩;clear HF;go_wp2_with fail;go_ret;rw [HRR.out];exact ⟨rfl,by decide,_,_,_,Qh ⟨HZ.out.1,HY.out.2.trans HZ.out.2⟩⟩
    ·have h50a:¬(50:Int)≤(d:Int):=by omega
     have h50b:decide ((50:Int)≤(d:Int))=false:=decide_eq_false h50a
     have hl5:(5000:Int)≤(L.length:Int):=by omega
     have hl6:decide ((5000:Int)≤(L.length:Int))=true:=decide_eq_true hl5
     clear hfull;go_wp2_with fail;refine HF.out.mono ?_
     rintro en w4 ⟨rfl,HZ⟩;clear HF;go_wp2_with fail;go_ret;rw [HRR.out];exact ⟨rfl,by decide,_,_,_,Qh ⟨HZ.out.1,HY.out.2.trans HZ.out.2⟩⟩
   ·have hRR:R=groupF (fun s=> kids g true (d+1) (L.length+1) [] s) 6 key 125 r:=by rw [HR.out,if_neg hfull]
    have h50a:¬(50:Int)≤(d:Int):=by omega
    have h50b:decide ((50:Int)≤(d:Int))=false:=decide_eq_false h50a
    have hl5:¬(5000:Int)≤(L.length:Int):=by omega
    have hl6:decide ((5000:Int)≤(L.length:Int))=false:=decide_eq_false hl5
    obtain ⟨c2,ff⟩:=HY.out.1.cell2
    have hd5:d < 50:=by omega
    have hL5:L.length < 5000:=by omega
    obtain ⟨p,hp,hq,hr⟩:=HY.out.1
    have hpl:p+1≤s.length:=by
     have:=congrArg List.length hq
     rw [List.length_drop]at this
     omega
    have HA:Hid (RR (wr.setCell ⟨b,1,none⟩ (.int .i64 ((p:Int)+1))) b s r (.slice AA L.length cc) L 0∧Stp wr (wr.setCell ⟨b,1,none⟩ (.int .i64 ((p:Int)+1))) b (.slice AA L.length cc) (.slice AA L.length cc)):=Qh (by
     have:=hr.adv hq 1 hpl
     rw [HX0.out]at this
     exact this)
    obtain ⟨_,c1,_,_⟩:=hr.cells
    have ff1:=hr.row.frozen 1
    have hp1:(p:Int)+1≤1000000000:=by omega
    have hp0:(0:Int)≤(p:Int)+1:=by omega
    have hll:(L++[(⟨6,key,[],0⟩:V)]).length=L.length+1:=by rw [List.length_append,List.length_singleton]
    have HKJ:=Qh (fun w6 v6 h6=> HKI.out w6 v6 h6 hL5 hd5)
    rw [←hRR]at HKJ
    clear HR hRR hfull hr hq hp hpl HKI HX0 HTT hd5 hL5;go_upto_region 30 with fail;generalize wr.setCell ⟨b,1,none⟩ (.int .i64 ((p:Int)+1))=w4 at*;obtain ⟨c2',ff'⟩:=HA.out.1.cell2
    have hbw:=HA.out.1.lt
    clear c2 ff c1 ff1;have HB4:=qac w4 (.cells #[.int .i64 6, .string (sb key), .string ⟨#[]⟩, .int .i64 0] 72)
    have HVA:Hid (ValsAt (w4.alloc (.cells #[.int .i64 6, .string (sb key), .string ⟨#[]⟩, .int .i64 0] 72)) (some ⟨w4.heap.size,0,none⟩) 1 1 [⟨6,key,[],0⟩]):=Qh (ValsAt.lay (Row.new w4 72 (cellsV [⟨6,key,[],0⟩])) 1 rfl)
    have HOW:=Qh (HA.out.1.own.below HB4)
    have HBL:=Qh HB4
    clear HB4;go_wp2_with (first
     | (with_reducible refine qdm rfl _ rfl 6 (sb key) ⟨#[]⟩ 0 rfl ?_)
     | (at_builtin;go_must (with_reducible refine qa6 rfl _ _ rfl (b+1) (.slice AA L.length cc) L rfl HOW.out ⟨w4.heap.size,0,none⟩ 1 1 [⟨6,key,[],0⟩] rfl HVA.out (by omega) (by simp;omega) ?_;intro v2 w5 h1 h2 h3;obtain ⟨g2,n2,rfl, -⟩:=h1.out.got (by rw [hll];omega);rw [hll]at h1 h3;obtain ⟨hc2,hf2⟩:=HA.out.1.slot HBL.out h2.out;have HGR:=Qh (HA.out.1.grow HBL.out h1.out h2.out h3.out);clear h1 h2 h3)))
    have HKK:=Qh (HKJ.out _ _ HGR.out.1)
    have HST:=Qh (HY.out.2.trans (HA.out.2.trans HGR.out.2))
    clear HKJ HGR HA HVA HOW HBL HY;refine HKK.out.mono ?_
    intro en w7 hpp;clear HKK;cases R with
    | ok m l rr=>
     obtain ⟨rfl,v7,HZ⟩:=hpp
     go_wp2_with fail;go_ret;exact ⟨rfl,v7,Qh ⟨HZ.out.1,HST.out.trans HZ.out.2⟩⟩
    | err ec=>
     obtain ⟨rfl,hc0,u7,v7,L7,HZ⟩:=hpp
     go_wp2_with fail;go_ret;exact ⟨rfl,hc0,u7,v7,L7,Qh ⟨HZ.out.1,HST.out.trans HZ.out.2⟩⟩
end Go.Proofs.YtgmangikcfakgaaGreatDoor
