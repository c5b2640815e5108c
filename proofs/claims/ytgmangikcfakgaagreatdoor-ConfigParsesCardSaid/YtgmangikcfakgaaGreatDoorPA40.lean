import Derived.Test.YtgmangikcfakgaaGreatDoorPA30
import Derived.Test.YtgmangikcfakgaaGreatDoorPA26
set_option maxRecDepth 100000
set_option maxHeartbeats 40000000
namespace Go.Proofs.YtgmangikcfakgaaGreatDoor
open Go.RowKit Sh Jt Js
theorem qbu (a b c:ByteArray):(([.string a, .string b, .string c]:List Value).toArray.all (·.oneCell'))=true:=by simp [Value.oneCell']
theorem RRd.adv {w:World} {b:Nat} {s u:List UInt8} {p:Nat} {v:Value} {L:List V} {e:Int} (h:RRd w b s p v L e) (hq:s.drop p=u) (n:Nat) (hn:p+n≤s.length):
  RR (w.setCell ⟨b,1,none⟩ (.int .i64 ((p+n:Nat):Int))) b s (u.drop n) v L e∧Stp w (w.setCell ⟨b,1,none⟩ (.int .i64 ((p+n:Nat):Int))) b v v:=
 ⟨⟨p+n,hn,by rw [←hq,List.drop_drop],(h.at_ (p+n)).1⟩,(h.at_ (p+n)).2⟩
theorem qrj (w:World) (b:Nat) (s u:List UInt8) (v:Value) (L:List V) (d:Nat) (key:List UInt8) (a:UInt8) (r:List UInt8) (ha:a=110) (h:RR w b s u v L 0) (hx:skip u=a::r) (hs:s.length≤1000000000) (hL:L.length≤5000) (hd:d≤50) (R:Res) (hR:R=if 50≤d∨5000≤L.length then .err 2 else wordF [110,117,108,108] (a::r) ⟨0,key,[],0⟩):
  Calls Tryz.prog 63 #[.pointer (some ⟨b,0,none⟩), .string (sb key), .int .i64 (d:Int)] w (RVPost b s v L w R):=by
 subst ha
 have HK0:=Qh h.own.vals
 have HK:=Qh (js_rskip' h hs)
 rw [hx]at HK
 have hss:skip (110::r)=110::r:=by rw [←hx,qa3]
 clear hx h
 have HR:=Qh hR
 clear hR
 obtain ⟨AA,cc,hvv, -⟩:∃AA cc,v= .slice AA L.length cc∧True:=by
  obtain ⟨A,c,e,_⟩:=HK0.out
  exact ⟨A,c,e,trivial⟩
 subst hvv
 clear HK0
 have h1:¬(sb (110::r)).toList=[]:=by rw [qab];exact List.cons_ne_nil _ _
 have h2:(sb (110::r)).toList.isEmpty=false:=by rw [qab];rfl
 have h3:(sb (110::r)).size=r.length+1:=by rw [qag,List.length_cons]
 have hix:∀W,(Instr.index 9 (.string (sb (110::r))) (.int .i64 0)).run Tryz.prog W= .ok (.int .u8 110) W:=fun W=> qam (110::r) 0 (by simp) W
 have hgt:(0:Int) < (r.length:Int)+1:=by omega
 have hgt2:decide ((0:Int) < (r.length:Int)+1)=true:=decide_eq_true hgt
 have HXX:=Qh (rfl:110::r=110::r)
 obtain ⟨X,hX⟩:∃X,X=110::r:=⟨_,rfl⟩
 rw [←hX]at HK h1 h2 h3 hix hss
 have HX0:=Qh hX
 clear hX HXX
 have hxl:X.length=r.length+1:=by rw [HX0.out,List.length_cons]
 go_enter Tryz.func63,Tryz.ntmps63
 go_wp2_with fail
 refine HK.out.mono ?_
 rintro en w1 ⟨rfl,HX⟩
 clear HK
 obtain ⟨p,hp,hq,hr⟩:=HX.out.1
 obtain ⟨c0,c1,c2,c3⟩:=hr.cells
 have hz:=qag s
 have hcut:=qbg s p
 rw [hq]at hcut
 have hpi:(p:Int)≤(s.length:Int):=by omega
 have hbl:=hr.row.lt
 clear hr hq c2 c3
 generalize sb s=S at*
 generalize hTT:sb X=T at*
 have HTT:=Qh hTT
 clear hTT
 go_upto_region 2 with fail
 go_quiet (fail)
 have HX2:Hid (RR (w1.drewN nq) b s X (.slice AA L.length cc) L 0∧Stp w (w1.drewN nq) b (.slice AA L.length cc) (.slice AA L.length cc)):=Qh ⟨HX.out.1.below (qaa (Below.refl _ _) nq),HX.out.2.trans (Stp.of_below (qaa (Below.refl _ _) nq) b _)⟩
 have hbl2:b < (w1.drewN nq).heap.size:=hbl
 clear HX c0 c1 hbl hcut hpi hp hz
 generalize w1.drewN nq=w2 at*
 have R2:Hid (Row (w2.alloc (.cells #[.string ⟨#[]⟩, .string ⟨#[]⟩, .string ⟨#[]⟩] 122)) w2.heap.size 122 [.string ⟨#[]⟩, .string ⟨#[]⟩, .string ⟨#[]⟩]):=Qh (Row.new w2 _ _)
 go_upto_region 3 with fail
 go_wp2_with ((with_reducible refine qaf ?_ 122 (.tmp 8) (.tmp 26) ?_ w2.heap.size [.string ⟨#[110,117,108,108]⟩, .string ⟨#[116,114,117,101]⟩, .string ⟨#[102,97,108,115,101]⟩] ?_ ?_ _ ?_ R2.out ?_ ?_ ?_);rfl;rfl;go_must (rfl;rfl;rfl;kernel_rfl;exact qbu _ _ _;intro w3 R3 K3 E3))
 have hB3:Below w2.heap.size w2 w3:=(qac w2 _).trans (K3.out.below (qac w2 _).size (fun k hk e=> by
  have:k=w2.heap.size:=e
  omega))
 have HX3:=Qh (And.intro (HX2.out.1.below hB3) (HX2.out.2.trans (Stp.of_below hB3 b _)))
 clear HX2 R2 K3 E3 hB3 hbl2
 generalize w2.heap.size=B at*
 go_wp2_with fail
 go_loopg [9] 3 (fun g v9 wx=> ∃j:Nat,j+g=3∧j≤0∧v9= .int .i64 (j:Int)∧Hid (Row wx B 122 [.string ⟨#[110,117,108,108]⟩, .string ⟨#[116,114,117,101]⟩, .string ⟨#[102,97,108,115,101]⟩])∧Hid (RR wx b s X (.slice AA L.length cc) L 0∧Stp w wx b (.slice AA L.length cc) (.slice AA L.length cc)))
 case atStart=> exact ⟨0,rfl,Nat.zero_le _,rfl,R3,HX3⟩
 case round=>
  clear R3 HX3;obtain ⟨j,hj,hjI,rfl,HQ,HX⟩:=hrel
  have q0:wr.cell? ⟨B,0,none⟩=some (.string ⟨#[110,117,108,108]⟩):=HQ.out.cell rfl
  have q1:wr.cell? ⟨B,1,none⟩=some (.string ⟨#[116,114,117,101]⟩):=HQ.out.cell rfl
  have q2:wr.cell? ⟨B,2,none⟩=some (.string ⟨#[102,97,108,115,101]⟩):=HQ.out.cell rfl
  have hj3:j=0:=by omega
  rcases hj3 with rfl
  ·obtain rfl:gk=3:=by omega
   go_upto_region 7 with fail;go_quiet (fail)
   have HY:Hid (RR (wr.drewN nq) b s X (.slice AA L.length cc) L 0∧Stp w (wr.drewN nq) b (.slice AA L.length cc) (.slice AA L.length cc)):=Qh ⟨HX.out.1.below (qaa (Below.refl _ _) nq),HX.out.2.trans (Stp.of_below (qaa (Below.refl _ _) nq) b _)⟩
   have HQY:Hid (Row (wr.drewN nq) B 122 [.string ⟨#[110,117,108,108]⟩, .string ⟨#[116,114,117,101]⟩, .string ⟨#[102,97,108,115,101]⟩]):=Qh (HQ.out.below (qaa (Below.refl _ _) nq) HQ.out.lt)
   clear HX HQ q0 q1 q2;generalize wr.drewN nq=wy at*;have q0:wy.cell? ⟨B,0,none⟩=some (.string ⟨#[110,117,108,108]⟩):=HQY.out.cell rfl
   by_cases hfull:50≤d∨5000≤L.length
   ·have HRR:=Qh (show R= .err 2 by rw [HR.out,if_pos hfull])
    have HF:=Qh (js_rfail' 2 HY.out.1)
    obtain ⟨c2,ff⟩:=HY.out.1.cell2
    by_cases h50:d=50
    ·have h50':(d:Int)=50:=by omega
     have h50a:(50:Int)≤(d:Int):=by omega
     have h50b:decide ((50:Int)≤(d:Int))=true:=decide_eq_true h50a
     clear hfull;go_wp2_with fail;refine HF.out.mono ?_
     rintro en w4 ⟨rfl,HZ⟩;clear HF;go_wp2_with fail;go_ret;rw [HRR.out];exact ⟨rfl,by decide,_,_,_,Qh ⟨HZ.out.1,HY.out.2.trans HZ.out.2⟩⟩
    ·have h50a:¬(50:Int)≤(d:Int):=by omega
     have h50b:decide ((50:Int)≤(d:Int))=false:=decide_eq_false h50a
     have hl5:(5000:Int)≤(L.length:Int):=by omega
     have hl6:decide ((5000:Int)≤(L.length:Int))=true:=decide_eq_true hl5
     clear hfull;go_wp2_with fail;refine HF.out.mono ?_
     rintro en w4 ⟨rfl,HZ⟩;clear HF;go_wp2_with fail;go_ret;rw [HRR.out];exact ⟨rfl,by decide,_,_,_,Qh ⟨HZ.out.1,HY.out.2.trans HZ.out.2⟩⟩
   ·have hRR:R=wordF [110,117,108,108] X ⟨0,key,[],0⟩:=by rw [HR.out,if_neg hfull,HX0.out]
    have h50a:¬(50:Int)≤(d:Int):=by omega
    have h50b:decide ((50:Int)≤(d:Int))=false:=decide_eq_false h50a
    have hl5:¬(5000:Int)≤(L.length:Int):=by omega
    have hl6:decide ((5000:Int)≤(L.length:Int))=false:=decide_eq_false hl5
    obtain ⟨c2,ff⟩:=HY.out.1.cell2
    have HS:=Qh (js_rsign' [110,117,108,108] HY.out.1 hs (by decide))
    rw [hss]at HS
    change Hid (Calls _ _ #[_, .string ⟨#[110,117,108,108]⟩] _ _)at HS
    unfold wordF at hRR;cases hpre:[110,117,108,108].isPrefixOf X with
    | false=>
     rw [hpre,if_neg (by decide)]at hRR HS
     have HRR:=Qh hRR
     clear hpre hRR hfull;go_wp2_with fail;refine HS.out.mono ?_
     rintro en w4 ⟨rfl,HZ⟩;have HF:=Qh (js_rfail' 3 HZ.out.1)
     clear HS;go_wp2_with fail;refine HF.out.mono ?_
     rintro en w5 ⟨rfl,HZ2⟩;clear HF;go_wp2_with fail;go_ret;rw [HRR.out];exact ⟨rfl,by decide,_,_,_,Qh ⟨HZ2.out.1,HY.out.2.trans (HZ.out.2.trans HZ2.out.2)⟩⟩
    | true=>
     rw [hpre,if_pos rfl]at hRR HS
     have HRR:=Qh hRR
     have hd5:d < 50:=by omega
     have hL5:L.length < 5000:=by omega
     clear hpre hRR hfull;go_wp2_with fail;refine HS.out.mono ?_
     rintro en w4 ⟨rfl,HZ⟩;have HP:=Qh (qe0 w4 b s _ _ L 0 0 key [] d HZ.out.1 hd5 hL5)
     rw [qf9]at HP
     clear HS hd5 hL5;go_wp2_with fail;refine HP.out.mono ?_
     rintro en w5 ⟨rfl,v5,HZ2⟩;clear HP;go_wp2_with fail;go_ret;rw [HRR.out];exact ⟨rfl,v5,Qh ⟨HZ2.out.1,HY.out.2.trans (HZ.out.2.trans HZ2.out.2)⟩⟩
theorem qqx (w:World) (b:Nat) (s u:List UInt8) (v:Value) (L:List V) (d:Nat) (key:List UInt8) (a:UInt8) (r:List UInt8) (ha:a=116) (h:RR w b s u v L 0) (hx:skip u=a::r) (hs:s.length≤1000000000) (hL:L.length≤5000) (hd:d≤50) (R:Res) (hR:R=if 50≤d∨5000≤L.length then .err 2 else wordF [116,114,117,101] (a::r) ⟨1,key,[],0⟩):
  Calls Tryz.prog 63 #[.pointer (some ⟨b,0,none⟩), .string (sb key), .int .i64 (d:Int)] w (RVPost b s v L w R):=by
 subst ha
 have HK0:=Qh h.own.vals
 have HK:=Qh (js_rskip' h hs)
 rw [hx]at HK
 have hss:skip (116::r)=116::r:=by rw [←hx,qa3]
 clear hx h
 have HR:=Qh hR
 clear hR
 obtain ⟨AA,cc,hvv, -⟩:∃AA cc,v= .slice AA L.length cc∧True:=by
  obtain ⟨A,c,e,_⟩:=HK0.out
  exact ⟨A,c,e,trivial⟩
 subst hvv
 clear HK0
 have h1:¬(sb (116::r)).toList=[]:=by rw [qab];exact List.cons_ne_nil _ _
 have h2:(sb (116::r)).toList.isEmpty=false:=by rw [qab];rfl
 have h3:(sb (116::r)).size=r.length+1:=by rw [qag,List.length_cons]
 have hix:∀W,(Instr.index 9 (.string (sb (116::r))) (.int .i64 0)).run Tryz.prog W= .ok (.int .u8 116) W:=fun W=> qam (116::r) 0 (by simp) W
 have hgt:(0:Int) < (r.length:Int)+1:=by omega
 have hgt2:decide ((0:Int) < (r.length:Int)+1)=true:=decide_eq_true hgt
 have HXX:=Qh (rfl:116::r=116::r)
 obtain ⟨X,hX⟩:∃X,X=116::r:=⟨_,rfl⟩
 rw [←hX]at HK h1 h2 h3 hix hss
 have HX0:=Qh hX
 clear hX HXX
 have hxl:X.length=r.length+1:=by rw [HX0.out,List.length_cons]
 go_enter Tryz.func63,Tryz.ntmps63
 go_wp2_with fail
 refine HK.out.mono ?_
 rintro en w1 ⟨rfl,HX⟩
 clear HK
 obtain ⟨p,hp,hq,hr⟩:=HX.out.1
 obtain ⟨c0,c1,c2,c3⟩:=hr.cells
 have hz:=qag s
 have hcut:=qbg s p
 rw [hq]at hcut
 have hpi:(p:Int)≤(s.length:Int):=by omega
 have hbl:=hr.row.lt
 clear hr hq c2 c3
 generalize sb s=S at*
 generalize hTT:sb X=T at*
 have HTT:=Qh hTT
 clear hTT
 go_upto_region 2 with fail
 go_quiet (fail)
 have HX2:Hid (RR (w1.drewN nq) b s X (.slice AA L.length cc) L 0∧Stp w (w1.drewN nq) b (.slice AA L.length cc) (.slice AA L.length cc)):=Qh ⟨HX.out.1.below (qaa (Below.refl _ _) nq),HX.out.2.trans (Stp.of_below (qaa (Below.refl _ _) nq) b _)⟩
 have hbl2:b < (w1.drewN nq).heap.size:=hbl
 clear HX c0 c1 hbl hcut hpi hp hz
 generalize w1.drewN nq=w2 at*
 have R2:Hid (Row (w2.alloc (.cells #[.string ⟨#[]⟩, .string ⟨#[]⟩, .string ⟨#[]⟩] 122)) w2.heap.size 122 [.string ⟨#[]⟩, .string ⟨#[]⟩, .string ⟨#[]⟩]):=Qh (Row.new w2 _ _)
 go_upto_region 3 with fail
 go_wp2_with ((with_reducible refine qaf ?_ 122 (.tmp 8) (.tmp 26) ?_ w2.heap.size [.string ⟨#[110,117,108,108]⟩, .string ⟨#[116,114,117,101]⟩, .string ⟨#[102,97,108,115,101]⟩] ?_ ?_ _ ?_ R2.out ?_ ?_ ?_);rfl;rfl;go_must (rfl;rfl;rfl;kernel_rfl;exact qbu _ _ _;intro w3 R3 K3 E3))
 have hB3:Below w2.heap.size w2 w3:=(qac w2 _).trans (K3.out.below (qac w2 _).size (fun k hk e=> by
  have:k=w2.heap.size:=e
  omega))
 have HX3:=Qh (And.intro (HX2.out.1.below hB3) (HX2.out.2.trans (Stp.of_below hB3 b _)))
 clear HX2 R2 K3 E3 hB3 hbl2
 generalize w2.heap.size=B at*
 go_wp2_with fail
 go_loopg [9] 3 (fun g v9 wx=> ∃j:Nat,j+g=3∧j≤1∧v9= .int .i64 (j:Int)∧Hid (Row wx B 122 [.string ⟨#[110,117,108,108]⟩, .string ⟨#[116,114,117,101]⟩, .string ⟨#[102,97,108,115,101]⟩])∧Hid (RR wx b s X (.slice AA L.length cc) L 0∧Stp w wx b (.slice AA L.length cc) (.slice AA L.length cc)))
 case atStart=> exact ⟨0,rfl,Nat.zero_le _,rfl,R3,HX3⟩
 case round=>
  clear R3 HX3;obtain ⟨j,hj,hjI,rfl,HQ,HX⟩:=hrel
  have q0:wr.cell? ⟨B,0,none⟩=some (.string ⟨#[110,117,108,108]⟩):=HQ.out.cell rfl
  have q1:wr.cell? ⟨B,1,none⟩=some (.string ⟨#[116,114,117,101]⟩):=HQ.out.cell rfl
  have q2:wr.cell? ⟨B,2,none⟩=some (.string ⟨#[102,97,108,115,101]⟩):=HQ.out.cell rfl
  have hj3:j=0∨j=1:=by omega
  rcases hj3 with rfl | rfl
  ·obtain rfl:gk=3:=by omega
   go_upto_region 7 with fail;go_quiet (fail)
   have HY:Hid (RR (wr.drewN nq) b s X (.slice AA L.length cc) L 0∧Stp w (wr.drewN nq) b (.slice AA L.length cc) (.slice AA L.length cc)):=Qh ⟨HX.out.1.below (qaa (Below.refl _ _) nq),HX.out.2.trans (Stp.of_below (qaa (Below.refl _ _) nq) b _)⟩
   have HQY:Hid (Row (wr.drewN nq) B 122 [.string ⟨#[110,117,108,108]⟩, .string ⟨#[116,114,117,101]⟩, .string ⟨#[102,97,108,115,101]⟩]):=Qh (HQ.out.below (qaa (Below.refl _ _) nq) HQ.out.lt)
   clear HX HQ q0 q1 q2;generalize wr.drewN nq=wy at*;go_wp2_with fail;go_roundg 2
   case measure=> omega
   case rel=> exact ⟨1,rfl,by omega,by first | rfl | go_num,HQY,HY⟩
  ·obtain rfl:gk=2:=by omega
   go_upto_region 7 with fail;go_quiet (fail)
   have HY:Hid (RR (wr.drewN nq) b s X (.slice AA L.length cc) L 0∧Stp w (wr.drewN nq) b (.slice AA L.length cc) (.slice AA L.length cc)):=Qh ⟨HX.out.1.below (qaa (Below.refl _ _) nq),HX.out.2.trans (Stp.of_below (qaa (Below.refl _ _) nq) b _)⟩
   have HQY:Hid (Row (wr.drewN nq) B 122 [.string ⟨#[110,117,108,108]⟩, .string ⟨#[116,114,117,101]⟩, .string ⟨#[102,97,108,115,101]⟩]):=Qh (HQ.out.below (qaa (Below.refl _ _) nq) HQ.out.lt)
   clear HX HQ q0 q1 q2;generalize wr.drewN nq=wy at*;have q1:wy.cell? ⟨B,1,none⟩=some (.string ⟨#[116,114,117,101]⟩):=HQY.out.cell rfl
   by_cases hfull:50≤d∨5000≤L.length
   ·have HRR:=Qh (show R= .err 2 by rw [HR.out,if_pos hfull])
    have HF:=Qh (js_rfail' 2 HY.out.1)
    obtain ⟨c2,ff⟩:=HY.out.1.cell2
    by_cases h50:d=50
    ·have h50':(d:Int)=50:=by omega
     have h50a:(50:Int)≤(d:Int):=by omega
     have h50b:decide ((50:Int)≤(d:Int))=true:=decide_eq_true h50a
     clear hfull;go_wp2_with fail;refine HF.out.mono ?_
     rintro en w4 ⟨rfl,HZ⟩;clear HF;go_wp2_with fail;go_ret;rw [HRR.out];exact ⟨rfl,by decide,_,_,_,Qh ⟨HZ.out.1,HY.out.2.trans HZ.out.2⟩⟩
    ·have h50a:¬(50:Int)≤(d:Int):=by omega
     have h50b:decide ((50:Int)≤(d:Int))=false:=decide_eq_false h50a
     have hl5:(5000:Int)≤(L.length:Int):=by omega
     have hl6:decide ((5000:Int)≤(L.length:Int))=true:=decide_eq_true hl5
     clear hfull;go_wp2_with fail;refine HF.out.mono ?_
     rintro en w4 ⟨rfl,HZ⟩;clear HF;go_wp2_with fail;go_ret;rw [HRR.out];exact ⟨rfl,by decide,_,_,_,Qh ⟨HZ.out.1,HY.out.2.trans HZ.out.2⟩⟩
   ·have hRR:R=wordF [116,114,117,101] X ⟨1,key,[],0⟩:=by rw [HR.out,if_neg hfull,HX0.out]
    have h50a:¬(50:Int)≤(d:Int):=by omega
    have h50b:decide ((50:Int)≤(d:Int))=false:=decide_eq_false h50a
    have hl5:¬(5000:Int)≤(L.length:Int):=by omega
    have hl6:decide ((5000:Int)≤(L.length:Int))=false:=decide_eq_false hl5
    obtain ⟨c2,ff⟩:=HY.out.1.cell2
    have HS:=Qh (js_rsign' [116,114,117,101] HY.out.1 hs (by decide))
    rw [hss]at HS
    change Hid (Calls _ _ #[_, .string ⟨#[116,114,117,101]⟩] _ _)at HS
    unfold wordF at hRR;cases hpre:[116,114,117,101].isPrefixOf X with
    | false=>
     rw [hpre,if_neg (by decide)]at hRR HS
     have HRR:=Qh hRR
     clear hpre hRR hfull;go_wp2_with fail;refine HS.out.mono ?_
     rintro en w4 ⟨rfl,HZ⟩;have HF:=Qh (js_rfail' 3 HZ.out.1)
     clear HS;go_wp2_with fail;refine HF.out.mono ?_
     rintro en w5 ⟨rfl,HZ2⟩;clear HF;go_wp2_with fail;go_ret;rw [HRR.out];exact ⟨rfl,by decide,_,_,_,Qh ⟨HZ2.out.1,HY.out.2.trans (HZ.out.2.trans HZ2.out.2)⟩⟩
    | true=>
     rw [hpre,if_pos rfl]at hRR HS
     have HRR:=Qh hRR
     have hd5:d < 50:=by omega
     have hL5:L.length < 5000:=by omega
     clear hpre hRR hfull;go_wp2_with fail;refine HS.out.mono ?_
     rintro en w4 ⟨rfl,HZ⟩;have HP:=Qh (qe0 w4 b s _ _ L 1 0 key [] d HZ.out.1 hd5 hL5)
     rw [qf9]at HP
     clear HS hd5 hL5;go_wp2_with fail;refine HP.out.mono ?_
     rintro en w5 ⟨rfl,v5,HZ2⟩;clear HP;go_wp2_with fail;go_ret;rw [HRR.out];exact ⟨rfl,v5,Qh ⟨HZ2.out.1,HY.out.2.trans (HZ.out.2.trans HZ2.out.2)⟩⟩
theorem qrr (w:World) (b:Nat) (s u:List UInt8) (v:Value) (L:List V) (d:Nat) (key:List UInt8) (a:UInt8) (r:List UInt8) (ha:a=102) (h:RR w b s u v L 0) (hx:skip u=a::r) (hs:s.length≤1000000000) (hL:L.length≤5000) (hd:d≤50) (R:Res) (hR:R=if 50≤d∨5000≤L.length then .err 2 else wordF [102,97,108,115,101] (a::r) ⟨2,key,[],0⟩):
  Calls Tryz.prog 63 #[.pointer (some ⟨b,0,none⟩), .string (sb key), .int .i64 (d:Int)] w (RVPost b s v L w R):=by
 subst ha
 have HK0:=Qh h.own.vals
 have HK:=Qh (js_rskip' h hs)
 rw [hx]at HK
 have hss:skip (102::r)=102::r:=by rw [←hx,qa3]
 clear hx h
 have HR:=Qh hR
 clear hR
 obtain ⟨AA,cc,hvv, -⟩:∃AA cc,v= .slice AA L.length cc∧True:=by
  obtain ⟨A,c,e,_⟩:=HK0.out
  exact ⟨A,c,e,trivial⟩
 subst hvv
 clear HK0
 have h1:¬(sb (102::r)).toList=[]:=by rw [qab];exact List.cons_ne_nil _ _
 have h2:(sb (102::r)).toList.isEmpty=false:=by rw [qab];rfl
 have h3:(sb (102::r)).size=r.length+1:=by rw [qag,List.length_cons]
 have hix:∀W,(Instr.index 9 (.string (sb (102::r))) (.int .i64 0)).run Tryz.prog W= .ok (.int .u8 102) W:=fun W=> qam (102::r) 0 (by simp) W
 have hgt:(0:Int) < (r.length:Int)+1:=by omega
 have hgt2:decide ((0:Int) < (r.length:Int)+1)=true:=decide_eq_true hgt
 have HXX:=Qh (rfl:102::r=102::r)
 obtain ⟨X,hX⟩:∃X,X=102::r:=⟨_,rfl⟩
 rw [←hX]at HK h1 h2 h3 hix hss
 have HX0:=Qh hX
 clear hX HXX
 have hxl:X.length=r.length+1:=by rw [HX0.out,List.length_cons]
 go_enter Tryz.func63,Tryz.ntmps63
 go_wp2_with fail
 refine HK.out.mono ?_
 rintro en w1 ⟨rfl,HX⟩
 clear HK
 obtain ⟨p,hp,hq,hr⟩:=HX.out.1
 obtain ⟨c0,c1,c2,c3⟩:=hr.cells
 have hz:=qag s
 have hcut:=qbg s p
 rw [hq]at hcut
 have hpi:(p:Int)≤(s.length:Int):=by omega
 have hbl:=hr.row.lt
 clear hr hq c2 c3
 generalize sb s=S at*
 generalize hTT:sb X=T at*
 have HTT:=Qh hTT
 clear hTT
 go_upto_region 2 with fail
 go_quiet (fail)
 have HX2:Hid (RR (w1.drewN nq) b s X (.slice AA L.length cc) L 0∧Stp w (w1.drewN nq) b (.slice AA L.length cc) (.slice AA L.length cc)):=Qh ⟨HX.out.1.below (qaa (Below.refl _ _) nq),HX.out.2.trans (Stp.of_below (qaa (Below.refl _ _) nq) b _)⟩
 have hbl2:b < (w1.drewN nq).heap.size:=hbl
 clear HX c0 c1 hbl hcut hpi hp hz
 generalize w1.drewN nq=w2 at*
 have R2:Hid (Row (w2.alloc (.cells #[.string ⟨#[]⟩, .string ⟨#[]⟩, .string ⟨#[]⟩] 122)) w2.heap.size 122 [.string ⟨#[]⟩, .string ⟨#[]⟩, .string ⟨#[]⟩]):=Qh (Row.new w2 _ _)
 go_upto_region 3 with fail
 go_wp2_with ((with_reducible refine qaf ?_ 122 (.tmp 8) (.tmp 26) ?_ w2.heap.size [.string ⟨#[110,117,108,108]⟩, .string ⟨#[116,114,117,101]⟩, .string ⟨#[102,97,108,115,101]⟩] ?_ ?_ _ ?_ R2.out ?_ ?_ ?_);rfl;rfl;go_must (rfl;rfl;rfl;kernel_rfl;exact qbu _ _ _;intro w3 R3 K3 E3))
 have hB3:Below w2.heap.size w2 w3:=(qac w2 _).trans (K3.out.below (qac w2 _).size (fun k hk e=> by
  have:k=w2.heap.size:=e
  omega))
 have HX3:=Qh (And.intro (HX2.out.1.below hB3) (HX2.out.2.trans (Stp.of_below hB3 b _)))
 clear HX2 R2 K3 E3 hB3 hbl2
 generalize w2.heap.size=B at*
 go_wp2_with fail
 go_loopg [9] 3 (fun g v9 wx=> ∃j:Nat,j+g=3∧j≤2∧v9= .int .i64 (j:Int)∧Hid (Row wx B 122 [.string ⟨#[110,117,108,108]⟩, .string ⟨#[116,114,117,101]⟩, .string ⟨#[102,97,108,115,101]⟩])∧Hid (RR wx b s X (.slice AA L.length cc) L 0∧Stp w wx b (.slice AA L.length cc) (.slice AA L.length cc)))
 case atStart=> exact ⟨0,rfl,Nat.zero_le _,rfl,R3,HX3⟩
 case round=>
  clear R3 HX3;obtain ⟨j,hj,hjI,rfl,HQ,HX⟩:=hrel
  have q0:wr.cell? ⟨B,0,none⟩=some (.string ⟨#[110,117,108,108]⟩):=HQ.out.cell rfl
  have q1:wr.cell? ⟨B,1,none⟩=some (.string ⟨#[116,114,117,101]⟩):=HQ.out.cell rfl
  have q2:wr.cell? ⟨B,2,none⟩=some (.string ⟨#[102,97,108,115,101]⟩):=HQ.out.cell rfl
  have hj3:j=0∨j=1∨j=2:=by omega
  rcases hj3 with rfl | rfl | rfl
  ·obtain rfl:gk=3:=by omega
   go_upto_region 7 with fail;go_quiet (fail)
   have HY:Hid (RR (wr.drewN nq) b s X (.slice AA L.length cc) L 0∧Stp w (wr.drewN nq) b (.slice AA L.length cc) (.slice AA L.length cc)):=Qh ⟨HX.out.1.below (qaa (Below.refl _ _) nq),HX.out.2.trans (Stp.of_below (qaa (Below.refl _ _) nq) b _)⟩
   have HQY:Hid (Row (wr.drewN nq) B 122 [.string ⟨#[110,117,108,108]⟩, .string ⟨#[116,114,117,101]⟩, .string ⟨#[102,97,108,115,101]⟩]):=Qh (HQ.out.below (qaa (Below.refl _ _) nq) HQ.out.lt)
   clear HX HQ q0 q1 q2;generalize wr.drewN nq=wy at*;go_wp2_with fail;go_roundg 2
   case measure=> omega
   case rel=> exact ⟨1,rfl,by omega,by first | rfl | go_num,HQY,HY⟩
  ·obtain rfl:gk=2:=by omega
   go_upto_region 7 with fail;go_quiet (fail)
   have HY:Hid (RR (wr.drewN nq) b s X (.slice AA L.length cc) L 0∧Stp w (wr.drewN nq) b (.slice AA L.length cc) (.slice AA L.length cc)):=Qh ⟨HX.out.1.below (qaa (Below.refl _ _) nq),HX.out.2.trans (Stp.of_below (qaa (Below.refl _ _) nq) b _)⟩
   have HQY:Hid (Row (wr.drewN nq) B 122 [.string ⟨#[110,117,108,108]⟩, .string ⟨#[116,114,117,101]⟩, .string ⟨#[102,97,108,115,101]⟩]):=Qh (HQ.out.below (qaa (Below.refl _ _) nq) HQ.out.lt)
   clear HX HQ q0 q1 q2;generalize wr.drewN nq=wy at*;go_wp2_with fail;go_roundg 1
   case measure=> omega
   case rel=> exact ⟨2,rfl,by omega,by first | rfl | go_num,HQY,HY⟩
  ·obtain rfl:gk=1:=by omega
   go_upto_region 7 with fail;go_quiet (fail)
   have HY:Hid (RR (wr.drewN nq) b s X (.slice AA L.length cc) L 0∧Stp w (wr.drewN nq) b (.slice AA L.length cc) (.slice AA L.length cc)):=Qh ⟨HX.out.1.below (qaa (Below.refl _ _) nq),HX.out.2.trans (Stp.of_below (qaa (Below.refl _ _) nq) b _)⟩
   have HQY:Hid (Row (wr.drewN nq) B 122 [.string ⟨#[110,117,108,108]⟩, .string ⟨#[116,114,117,101]⟩, .string ⟨#[102,97,108,115,101]⟩]):=Qh (HQ.out.below (qaa (Below.refl _ _) nq) HQ.out.lt)
   clear HX HQ q0 q1 q2;generalize wr.drewN nq=wy at*;have q2:wy.cell? ⟨B,2,none⟩=some (.string ⟨#[102,97,108,115,101]⟩):=HQY.out.cell rfl
   by_cases hfull:50≤d∨5000≤L.length
   ·have HRR:=Qh (show R= .err 2 by rw [HR.out,if_pos hfull])
    have HF:=Qh (js_rfail' 2 HY.out.1)
    obtain ⟨c2,ff⟩:=HY.out.1.cell2
    by_cases h50:d=50
    ·have h50':(d:Int)=50:=by omega
     have h50a:(50:Int)≤(d:Int):=by omega
     have h50b:decide ((50:Int)≤(d:Int))=true:=decide_eq_true h50a
     clear hfull;go_wp2_with fail;refine HF.out.mono ?_
     rintro en w4 ⟨rfl,HZ⟩;clear HF;go_wp2_with fail;go_ret;rw [HRR.out];exact ⟨rfl,by decide,_,_,_,Qh ⟨HZ.out.1,HY.out.2.trans HZ.out.2⟩⟩
    ·have h50a:¬(50:Int)≤(d:Int):=by omega
     have h50b:decide ((50:Int)≤(d:Int))=false:=decide_eq_false h50a
     have hl5:(5000:Int)≤(L.length:Int):=by omega
     have hl6:decide ((5000:Int)≤(L.length:Int))=true:=decide_eq_true hl5
     clear hfull;go_wp2_with fail;refine HF.out.mono ?_
     rintro en w4 ⟨rfl,HZ⟩;clear HF;go_wp2_with fail;go_ret;rw [HRR.out];exact ⟨rfl,by decide,_,_,_,Qh ⟨HZ.out.1,HY.out.2.trans HZ.out.2⟩⟩
   ·have hRR:R=wordF [102,97,108,115,101] X ⟨2,key,[],0⟩:=by rw [HR.out,if_neg hfull,HX0.out]
    have h50a:¬(50:Int)≤(d:Int):=by omega
    have h50b:decide ((50:Int)≤(d:Int))=false:=decide_eq_false h50a
    have hl5:¬(5000:Int)≤(L.length:Int):=by omega
    have hl6:decide ((5000:Int)≤(L.length:Int))=false:=decide_eq_false hl5
    obtain ⟨c2,ff⟩:=HY.out.1.cell2
    have HS:=Qh (js_rsign' [102,97,108,115,101] HY.out.1 hs (by decide))
    rw [hss]at HS
    change Hid (Calls _ _ #[_, .string ⟨#[102,97,108,115,101]⟩] _ _)at HS
    unfold wordF at hRR;cases hpre:[102,97,108,115,101].isPrefixOf X with
    | false=>
     rw [hpre,if_neg (by decide)]at hRR HS
     have HRR:=Qh hRR
     clear hpre hRR hfull;go_wp2_with fail;refine HS.out.mono ?_
     rintro en w4 ⟨rfl,HZ⟩;have HF:=Qh (js_rfail' 3 HZ.out.1)
     clear HS;go_wp2_with fail;refine HF.out.mono ?_
     rintro en w5 ⟨rfl,HZ2⟩;clear HF;go_wp2_with fail;go_ret;rw [HRR.out];exact ⟨rfl,by decide,_,_,_,Qh ⟨HZ2.out.1,HY.out.2.trans (HZ.out.2.trans HZ2.out.2)⟩⟩
    | true=>
     rw [hpre,if_pos rfl]at hRR HS
     have HRR:=Qh hRR
     have hd5:d < 50:=by omega
     have hL5:L.length < 5000:=by omega
     clear hpre hRR hfull;go_wp2_with fail;refine HS.out.mono ?_
     rintro en w4 ⟨rfl,HZ⟩;have HP:=Qh (qe0 w4 b s _ _ L 2 0 key [] d HZ.out.1 hd5 hL5)
     rw [qf9]at HP
     clear HS hd5 hL5;go_wp2_with fail;refine HP.out.mono ?_
     rintro en w5 ⟨rfl,v5,HZ2⟩;clear HP;go_wp2_with fail;go_ret;rw [HRR.out];exact ⟨rfl,v5,Qh ⟨HZ2.out.1,HY.out.2.trans (HZ.out.2.trans HZ2.out.2)⟩⟩
theorem qv4 (w:World) (b:Nat) (s u:List UInt8) (v:Value) (L:List V) (d:Nat) (key:List UInt8) (h:RR w b s u v L 0) (hx:skip u=[]) (hs:s.length≤1000000000):
  Calls Tryz.prog 63 #[.pointer (some ⟨b,0,none⟩), .string (sb key), .int .i64 (d:Int)] w (RVPost b s v L w (.err 3)):=by
 have HK:=Qh (js_rskip' h hs)
 rw [hx]at HK
 clear hx h
 have h1:(sb []).toList=[]:=qab _
 have h2:(sb []).toList.isEmpty=true:=by rw [h1];rfl
 have h3:(sb []).size=0:=rfl
 go_enter Tryz.func63,Tryz.ntmps63
 go_wp2_with fail
 refine HK.out.mono ?_
 rintro en w1 ⟨rfl,HX⟩
 clear HK
 obtain ⟨p,hp,hq,hr⟩:=HX.out.1
 obtain ⟨c0,c1,c2,c3⟩:=hr.cells
 have hz:=qag s
 have hcut:=qbg s p
 rw [hq]at hcut
 have hpi:(p:Int)≤(s.length:Int):=by omega
 have hbl:=hr.row.lt
 clear hr hq c2 c3
 generalize sb s=S at*
 generalize hTT:sb []=T at*
 clear hTT
 go_upto_region 2 with fail
 go_quiet (fail)
 have HX2:Hid (RR (w1.drewN nq) b s [] v L 0∧Stp w (w1.drewN nq) b v v):=Qh ⟨HX.out.1.below (qaa (Below.refl _ _) nq),HX.out.2.trans (Stp.of_below (qaa (Below.refl _ _) nq) b _)⟩
 have hbl2:b < (w1.drewN nq).heap.size:=hbl
 clear HX c0 c1 hbl hcut hpi hp hz
 generalize w1.drewN nq=w2 at*
 have R2:Hid (Row (w2.alloc (.cells #[.string ⟨#[]⟩, .string ⟨#[]⟩, .string ⟨#[]⟩] 122)) w2.heap.size 122 [.string ⟨#[]⟩, .string ⟨#[]⟩, .string ⟨#[]⟩]):=Qh (Row.new w2 _ _)
 go_upto_region 3 with fail
 go_wp2_with ((with_reducible refine qaf ?_ 122 (.tmp 8) (.tmp 26) ?_ w2.heap.size [.string ⟨#[110,117,108,108]⟩, .string ⟨#[116,114,117,101]⟩, .string ⟨#[102,97,108,115,101]⟩] ?_ ?_ _ ?_ R2.out ?_ ?_ ?_);rfl;rfl;go_must (rfl;rfl;rfl;kernel_rfl;exact qbu _ _ _;intro w3 R3 K3 E3))
 have hB3:Below w2.heap.size w2 w3:=(qac w2 _).trans (K3.out.below (qac w2 _).size (fun k hk e=> by
  have:k=w2.heap.size:=e
  omega))
 have HX3:=Qh (And.intro (HX2.out.1.below hB3) (HX2.out.2.trans (Stp.of_below hB3 b _)))
 clear HX2 R2 K3 E3 hB3 hbl2
 generalize w2.heap.size=B at*
 go_wp2_with fail
 go_loopg [9] 3 (fun g v9 wx=> ∃j:Nat,j+g=3∧j≤3∧v9= .int .i64 (j:Int)∧Hid (RR wx b s [] v L 0∧Stp w wx b v v))
 case atStart=> exact ⟨0,rfl,Nat.zero_le _,rfl,HX3⟩
 case round=>
  clear R3 HX3;obtain ⟨j,hj,hjI,rfl,HX⟩:=hrel
  by_cases hj3:j < 3
  ·have hjz:(j:Int) < 3:=by omega
   obtain ⟨g,hg⟩:∃g,gk=g+1:=⟨gk - 1,by omega⟩
   go_upto_region 7 with fail;go_quiet (fail)
   have HY:Hid (RR (wr.drewN nq) b s [] v L 0∧Stp w (wr.drewN nq) b v v):=Qh ⟨HX.out.1.below (qaa (Below.refl _ _) nq),HX.out.2.trans (Stp.of_below (qaa (Below.refl _ _) nq) b _)⟩
   clear HX;generalize wr.drewN nq=wy at*;go_wp2_with fail;go_roundg g
   case measure=> omega
   case rel=> exact ⟨j+1,by omega,by omega,by first | rfl | go_num,HY⟩
  ·obtain rfl:j=3:=by omega
   have HF:=Qh (js_rfail' 3 HX.out.1)
   go_wp2_with fail;refine HF.out.mono ?_
   rintro en w4 ⟨rfl,HZ⟩;clear HF;go_wp2_with fail;go_ret;exact ⟨rfl,by decide,_,_,_,Qh ⟨HZ.out.1,HX.out.2.trans HZ.out.2⟩⟩
theorem qx8 (w:World) (b:Nat) (s u:List UInt8) (v:Value) (L:List V) (d:Nat) (key:List UInt8) (a:UInt8) (r:List UInt8) (hst:¬starts a=true) (h:RR w b s u v L 0) (hx:skip u=a::r) (hs:s.length≤1000000000) (_:L.length≤5000) (_:d≤50) (R:Res) (hR:R= .err 3):
  Calls Tryz.prog 63 #[.pointer (some ⟨b,0,none⟩), .string (sb key), .int .i64 (d:Int)] w (RVPost b s v L w R):=by
 have HK0:=Qh h.own.vals
 have HK:=Qh (js_rskip' h hs)
 rw [hx]at HK
 have hss:skip (a::r)=a::r:=by rw [←hx,qa3]
 clear hx h
 have HR:=Qh hR
 clear hR
 obtain ⟨AA,cc,hvv, -⟩:∃AA cc,v= .slice AA L.length cc∧True:=by
  obtain ⟨A,c,e,_⟩:=HK0.out
  exact ⟨A,c,e,trivial⟩
 subst hvv
 clear HK0
 have h1:¬(sb (a::r)).toList=[]:=by rw [qab];exact List.cons_ne_nil _ _
 have h2:(sb (a::r)).toList.isEmpty=false:=by rw [qab];rfl
 have h3:(sb (a::r)).size=r.length+1:=by rw [qag,List.length_cons]
 have hix:∀W,(Instr.index 9 (.string (sb (a::r))) (.int .i64 0)).run Tryz.prog W= .ok (.int .u8 (n8 a)) W:=fun W=> qam (a::r) 0 (by simp) W
 have hgt:(0:Int) < (r.length:Int)+1:=by omega
 have hgt2:decide ((0:Int) < (r.length:Int)+1)=true:=decide_eq_true hgt
 have HXX:=Qh (rfl:a::r=a::r)
 have w0:((⟨#[110,117,108,108]⟩:ByteArray)[0]'(by decide)).toNat=110:=rfl
 have w1':((⟨#[116,114,117,101]⟩:ByteArray)[0]'(by decide)).toNat=116:=rfl
 have w2':((⟨#[102,97,108,115,101]⟩:ByteArray)[0]'(by decide)).toNat=102:=rfl
 have z110:¬n8 a=110:=fun e=> hst (by rw [n8_is (x:=a) (c:=110) e];decide)
 have y110:(n8 a==110)=false:=beq_eq_false_iff_ne.2 z110
 have z116:¬n8 a=116:=fun e=> hst (by rw [n8_is (x:=a) (c:=116) e];decide)
 have y116:(n8 a==116)=false:=beq_eq_false_iff_ne.2 z116
 have z102:¬n8 a=102:=fun e=> hst (by rw [n8_is (x:=a) (c:=102) e];decide)
 have y102:(n8 a==102)=false:=beq_eq_false_iff_ne.2 z102
 have z34:¬n8 a=34:=fun e=> hst (by rw [n8_is (x:=a) (c:=34) e];decide)
 have y34:(n8 a==34)=false:=beq_eq_false_iff_ne.2 z34
 have z91:¬n8 a=91:=fun e=> hst (by rw [n8_is (x:=a) (c:=91) e];decide)
 have y91:(n8 a==91)=false:=beq_eq_false_iff_ne.2 z91
 have z123:¬n8 a=123:=fun e=> hst (by rw [n8_is (x:=a) (c:=123) e];decide)
 have y123:(n8 a==123)=false:=beq_eq_false_iff_ne.2 z123
 have z45:¬n8 a=45:=fun e=> hst (by rw [n8_is (x:=a) (c:=45) e];decide)
 have y45:(n8 a==45)=false:=beq_eq_false_iff_ne.2 z45
 have hdg:¬(48≤n8 a∧n8 a≤57):=fun e=> hst (by
  have:isD a=true:=qdt.2 ⟨by have:=e.1;unfold n8 at this;omega,by have:=e.2;unfold n8 at this;omega⟩
  unfold starts;rw [this,Bool.or_true])
 have hn0:numF (a::r)=0:=by
  by_cases h0:numF (a::r)=0
  ·exact h0
  ·obtain ⟨a2,r2,e,h⟩:=qkd h0
   injection e with e _
   subst e;exfalso
   refine hst ?_
   rcases h with rfl | h
   ·decide
   ·exact qie h
 clear hst
 obtain ⟨X,hX⟩:∃X,X=a::r:=⟨_,rfl⟩
 rw [←hX]at HK h1 h2 h3 hix hss
 have HX0:=Qh hX
 clear hX HXX
 have hxl:X.length=r.length+1:=by rw [HX0.out,List.length_cons]
 generalize n8 a=z at*
 go_enter Tryz.func63,Tryz.ntmps63
 go_wp2_with fail
 refine HK.out.mono ?_
 rintro en w1 ⟨rfl,HX⟩
 clear HK
 obtain ⟨p,hp,hq,hr⟩:=HX.out.1
 obtain ⟨c0,c1,c2,c3⟩:=hr.cells
 have hz:=qag s
 have hcut:=qbg s p
 rw [hq]at hcut
 have hpi:(p:Int)≤(s.length:Int):=by omega
 have hbl:=hr.row.lt
 clear hr hq c2 c3
 generalize sb s=S at*
 generalize hTT:sb X=T at*
 have HTT:=Qh hTT
 clear hTT
 go_upto_region 2 with fail
 go_quiet (fail)
 have HX2:Hid (RR (w1.drewN nq) b s X (.slice AA L.length cc) L 0∧Stp w (w1.drewN nq) b (.slice AA L.length cc) (.slice AA L.length cc)):=Qh ⟨HX.out.1.below (qaa (Below.refl _ _) nq),HX.out.2.trans (Stp.of_below (qaa (Below.refl _ _) nq) b _)⟩
 have hbl2:b < (w1.drewN nq).heap.size:=hbl
 clear HX c0 c1 hbl hcut hpi hp hz
 generalize w1.drewN nq=w2 at*
 have R2:Hid (Row (w2.alloc (.cells #[.string ⟨#[]⟩, .string ⟨#[]⟩, .string ⟨#[]⟩] 122)) w2.heap.size 122 [.string ⟨#[]⟩, .string ⟨#[]⟩, .string ⟨#[]⟩]):=Qh (Row.new w2 _ _)
 go_upto_region 3 with fail
 go_wp2_with ((with_reducible refine qaf ?_ 122 (.tmp 8) (.tmp 26) ?_ w2.heap.size [.string ⟨#[110,117,108,108]⟩, .string ⟨#[116,114,117,101]⟩, .string ⟨#[102,97,108,115,101]⟩] ?_ ?_ _ ?_ R2.out ?_ ?_ ?_);rfl;rfl;go_must (rfl;rfl;rfl;kernel_rfl;exact qbu _ _ _;intro w3 R3 K3 E3))
 have hB3:Below w2.heap.size w2 w3:=(qac w2 _).trans (K3.out.below (qac w2 _).size (fun k hk e=> by
  have:k=w2.heap.size:=e
  omega))
 have HX3:=Qh (And.intro (HX2.out.1.below hB3) (HX2.out.2.trans (Stp.of_below hB3 b _)))
 clear HX2 R2 K3 E3 hB3 hbl2
 generalize w2.heap.size=B at*
 go_wp2_with fail
 go_loopg [9] 3 (fun g v9 wx=> ∃j:Nat,j+g=3∧j≤3∧v9= .int .i64 (j:Int)∧Hid (Row wx B 122 [.string ⟨#[110,117,108,108]⟩, .string ⟨#[116,114,117,101]⟩, .string ⟨#[102,97,108,115,101]⟩])∧Hid (RR wx b s X (.slice AA L.length cc) L 0∧Stp w wx b (.slice AA L.length cc) (.slice AA L.length cc)))
 case atStart=> exact ⟨0,rfl,Nat.zero_le _,rfl,R3,HX3⟩
 case round=>
  clear R3 HX3;obtain ⟨j,hj,hjI,rfl,HQ,HX⟩:=hrel
  have q0:wr.cell? ⟨B,0,none⟩=some (.string ⟨#[110,117,108,108]⟩):=HQ.out.cell rfl
  have q1:wr.cell? ⟨B,1,none⟩=some (.string ⟨#[116,114,117,101]⟩):=HQ.out.cell rfl
  have q2:wr.cell? ⟨B,2,none⟩=some (.string ⟨#[102,97,108,115,101]⟩):=HQ.out.cell rfl
  have hj3:j=0∨j=1∨j=2∨j=3:=by omega
  rcases hj3 with rfl | rfl | rfl | rfl
  ·obtain rfl:gk=3:=by omega
   go_upto_region 7 with fail;go_quiet (fail)
   have HY:Hid (RR (wr.drewN nq) b s X (.slice AA L.length cc) L 0∧Stp w (wr.drewN nq) b (.slice AA L.length cc) (.slice AA L.length cc)):=Qh ⟨HX.out.1.below (qaa (Below.refl _ _) nq),HX.out.2.trans (Stp.of_below (qaa (Below.refl _ _) nq) b _)⟩
   have HQY:Hid (Row (wr.drewN nq) B 122 [.string ⟨#[110,117,108,108]⟩, .string ⟨#[116,114,117,101]⟩, .string ⟨#[102,97,108,115,101]⟩]):=Qh (HQ.out.below (qaa (Below.refl _ _) nq) HQ.out.lt)
   clear HX HQ q0 q1 q2;generalize wr.drewN nq=wy at*;go_wp2_with fail;go_roundg 2
   case measure=> omega
   case rel=> exact ⟨1,rfl,by omega,by first | rfl | go_num,HQY,HY⟩
  ·obtain rfl:gk=2:=by omega
   go_upto_region 7 with fail;go_quiet (fail)
   have HY:Hid (RR (wr.drewN nq) b s X (.slice AA L.length cc) L 0∧Stp w (wr.drewN nq) b (.slice AA L.length cc) (.slice AA L.length cc)):=Qh ⟨HX.out.1.below (qaa (Below.refl _ _) nq),HX.out.2.trans (Stp.of_below (qaa (Below.refl _ _) nq) b _)⟩
   have HQY:Hid (Row (wr.drewN nq) B 122 [.string ⟨#[110,117,108,108]⟩, .string ⟨#[116,114,117,101]⟩, .string ⟨#[102,97,108,115,101]⟩]):=Qh (HQ.out.below (qaa (Below.refl _ _) nq) HQ.out.lt)
   clear HX HQ q0 q1 q2;generalize wr.drewN nq=wy at*;go_wp2_with fail;go_roundg 1
   case measure=> omega
   case rel=> exact ⟨2,rfl,by omega,by first | rfl | go_num,HQY,HY⟩
  ·obtain rfl:gk=1:=by omega
   go_upto_region 7 with fail;go_quiet (fail)
   have HY:Hid (RR (wr.drewN nq) b s X (.slice AA L.length cc) L 0∧Stp w (wr.drewN nq) b (.slice AA L.length cc) (.slice AA L.length cc)):=Qh ⟨HX.out.1.below (qaa (Below.refl _ _) nq),HX.out.2.trans (Stp.of_below (qaa (Below.refl _ _) nq) b _)⟩
   have HQY:Hid (Row (wr.drewN nq) B 122 [.string ⟨#[110,117,108,108]⟩, .string ⟨#[116,114,117,101]⟩, .string ⟨#[102,97,108,115,101]⟩]):=Qh (HQ.out.below (qaa (Below.refl _ _) nq) HQ.out.lt)
   clear HX HQ q0 q1 q2;generalize wr.drewN nq=wy at*;go_wp2_with fail;go_roundg 0
   case measure=> omega
   case rel=> exact ⟨3,rfl,by omega,by first | rfl | go_num,HQY,HY⟩
  ·obtain rfl:gk=0:=by omega
   have HY:=HX
   clear HX HQ q0 q1 q2;rw [←HX0.out]at hn0
   have HN:=Qh (qen wr X (Nat.le_trans HY.out.1.len hs))
   rw [HTT.out]at HN
   have HRR:=HR
   by_cases h48:48≤z
   ·have h57:¬z≤57:=fun e=> hdg ⟨h48,e⟩
    have h48b:decide (48≤z)=true:=decide_eq_true h48
    have h57b:decide (z≤57)=false:=decide_eq_false h57
    have HF:=Qh (js_rfail' 3 HY.out.1)
    rw [hn0]at HN
    clear hn0;go_wp2_with fail;refine HN.out.mono ?_
    rintro en w4 ⟨rfl,rfl⟩;clear HN;go_wp2_with fail;refine HF.out.mono ?_
    rintro en w5 ⟨rfl,HZ⟩;clear HF;go_wp2_with fail;go_ret;rw [HRR.out];exact ⟨rfl,by decide,_,_,_,Qh ⟨HZ.out.1,HY.out.2.trans HZ.out.2⟩⟩
   ·have h48b:decide (48≤z)=false:=decide_eq_false h48
    have HF:=Qh (js_rfail' 3 HY.out.1)
    rw [hn0]at HN
    clear hn0;go_wp2_with fail;refine HN.out.mono ?_
    rintro en w4 ⟨rfl,rfl⟩;clear HN;go_wp2_with fail;refine HF.out.mono ?_
    rintro en w5 ⟨rfl,HZ⟩;clear HF;go_wp2_with fail;go_ret;rw [HRR.out];exact ⟨rfl,by decide,_,_,_,Qh ⟨HZ.out.1,HY.out.2.trans HZ.out.2⟩⟩
theorem qv2 (w:World) (b:Nat) (s u:List UInt8) (v:Value) (L:List V) (d:Nat) (key:List UInt8) (a:UInt8) (r:List UInt8) (ha:a=34) (h:RR w b s u v L 0) (hx:skip u=a::r) (hs:s.length≤1000000000) (hL:L.length≤5000) (hd:d≤50) (R:Res) (hR:R=if 50≤d∨5000≤L.length then .err 2 else stringF key (a::r)):
  Calls Tryz.prog 63 #[.pointer (some ⟨b,0,none⟩), .string (sb key), .int .i64 (d:Int)] w (RVPost b s v L w R):=by
 subst ha
 have HK0:=Qh h.own.vals
 have HK:=Qh (js_rskip' h hs)
 rw [hx]at HK
 have hss:skip (34::r)=34::r:=by rw [←hx,qa3]
 clear hx h
 have HR:=Qh hR
 clear hR
 obtain ⟨AA,cc,hvv, -⟩:∃AA cc,v= .slice AA L.length cc∧True:=by
  obtain ⟨A,c,e,_⟩:=HK0.out
  exact ⟨A,c,e,trivial⟩
 subst hvv
 clear HK0
 have h1:¬(sb (34::r)).toList=[]:=by rw [qab];exact List.cons_ne_nil _ _
 have h2:(sb (34::r)).toList.isEmpty=false:=by rw [qab];rfl
 have h3:(sb (34::r)).size=r.length+1:=by rw [qag,List.length_cons]
 have hix:∀W,(Instr.index 9 (.string (sb (34::r))) (.int .i64 0)).run Tryz.prog W= .ok (.int .u8 34) W:=fun W=> qam (34::r) 0 (by simp) W
 have hgt:(0:Int) < (r.length:Int)+1:=by omega
 have hgt2:decide ((0:Int) < (r.length:Int)+1)=true:=decide_eq_true hgt
 have HXX:=Qh (rfl:34::r=34::r)
 obtain ⟨X,hX⟩:∃X,X=34::r:=⟨_,rfl⟩
 rw [←hX]at HK h1 h2 h3 hix hss
 have HX0:=Qh hX
 clear hX HXX
 have hxl:X.length=r.length+1:=by rw [HX0.out,List.length_cons]
 go_enter Tryz.func63,Tryz.ntmps63
 go_wp2_with fail
 refine HK.out.mono ?_
 rintro en w1 ⟨rfl,HX⟩
 clear HK
 obtain ⟨p,hp,hq,hr⟩:=HX.out.1
 obtain ⟨c0,c1,c2,c3⟩:=hr.cells
 have hz:=qag s
 have hcut:=qbg s p
 rw [hq]at hcut
 have hpi:(p:Int)≤(s.length:Int):=by omega
 have hbl:=hr.row.lt
 clear hr hq c2 c3
 generalize sb s=S at*
 generalize hTT:sb X=T at*
 have HTT:=Qh hTT
 clear hTT
 go_upto_region 2 with fail
 go_quiet (fail)
 have HX2:Hid (RR (w1.drewN nq) b s X (.slice AA L.length cc) L 0∧Stp w (w1.drewN nq) b (.slice AA L.length cc) (.slice AA L.length cc)):=Qh ⟨HX.out.1.below (qaa (Below.refl _ _) nq),HX.out.2.trans (Stp.of_below (qaa (Below.refl _ _) nq) b _)⟩
 have hbl2:b < (w1.drewN nq).heap.size:=hbl
 clear HX c0 c1 hbl hcut hpi hp hz
 generalize w1.drewN nq=w2 at*
 have R2:Hid (Row (w2.alloc (.cells #[.string ⟨#[]⟩, .string ⟨#[]⟩, .string ⟨#[]⟩] 122)) w2.heap.size 122 [.string ⟨#[]⟩, .string ⟨#[]⟩, .string ⟨#[]⟩]):=Qh (Row.new w2 _ _)
 go_upto_region 3 with fail
 go_wp2_with ((with_reducible refine qaf ?_ 122 (.tmp 8) (.tmp 26) ?_ w2.heap.size [.string ⟨#[110,117,108,108]⟩, .string ⟨#[116,114,117,101]⟩, .string ⟨#[102,97,108,115,101]⟩] ?_ ?_ _ ?_ R2.out ?_ ?_ ?_);rfl;rfl;go_must (rfl;rfl;rfl;kernel_rfl;exact qbu _ _ _;intro w3 R3 K3 E3))
 have hB3:Below w2.heap.size w2 w3:=(qac w2 _).trans (K3.out.below (qac w2 _).size (fun k hk e=> by
  have:k=w2.heap.size:=e
  omega))
 have HX3:=Qh (And.intro (HX2.out.1.below hB3) (HX2.out.2.trans (Stp.of_below hB3 b _)))
 clear HX2 R2 K3 E3 hB3 hbl2
 generalize w2.heap.size=B at*
 go_wp2_with fail
 go_loopg [9] 3 (fun g v9 wx=> ∃j:Nat,j+g=3∧j≤3∧v9= .int .i64 (j:Int)∧Hid (Row wx B 122 [.string ⟨#[110,117,108,108]⟩, .string ⟨#[116,114,117,101]⟩, .string ⟨#[102,97,108,115,101]⟩])∧Hid (RR wx b s X (.slice AA L.length cc) L 0∧Stp w wx b (.slice AA L.length cc) (.slice AA L.length cc)))
 case atStart=> exact ⟨0,rfl,Nat.zero_le _,rfl,R3,HX3⟩
 case round=>
  clear R3 HX3;obtain ⟨j,hj,hjI,rfl,HQ,HX⟩:=hrel
  have q0:wr.cell? ⟨B,0,none⟩=some (.string ⟨#[110,117,108,108]⟩):=HQ.out.cell rfl
  have q1:wr.cell? ⟨B,1,none⟩=some (.string ⟨#[116,114,117,101]⟩):=HQ.out.cell rfl
  have q2:wr.cell? ⟨B,2,none⟩=some (.string ⟨#[102,97,108,115,101]⟩):=HQ.out.cell rfl
  have hj3:j=0∨j=1∨j=2∨j=3:=by omega
  rcases hj3 with rfl | rfl | rfl | rfl
  ·obtain rfl:gk=3:=by omega
   go_upto_region 7 with fail;go_quiet (fail)
   have HY:Hid (RR (wr.drewN nq) b s X (.slice AA L.length cc) L 0∧Stp w (wr.drewN nq) b (.slice AA L.length cc) (.slice AA L.length cc)):=Qh ⟨HX.out.1.below (qaa (Below.refl _ _) nq),HX.out.2.trans (Stp.of_below (qaa (Below.refl _ _) nq) b _)⟩
   have HQY:Hid (Row (wr.drewN nq) B 122 [.string ⟨#[110,117,108,108]⟩, .string ⟨#[116,114,117,101]⟩, .string ⟨#[102,97,108,115,101]⟩]):=Qh (HQ.out.below (qaa (Below.refl _ _) nq) HQ.out.lt)
   clear HX HQ q0 q1 q2;generalize wr.drewN nq=wy at*;go_wp2_with fail;go_roundg 2
   case measure=> omega
   case rel=> exact ⟨1,rfl,by omega,by first | rfl | go_num,HQY,HY⟩
  ·obtain rfl:gk=2:=by omega
   go_upto_region 7 with fail;go_quiet (fail)
   have HY:Hid (RR (wr.drewN nq) b s X (.slice AA L.length cc) L 0∧Stp w (wr.drewN nq) b (.slice AA L.length cc) (.slice AA L.length cc)):=Qh ⟨HX.out.1.below (qaa (Below.refl _ _) nq),HX.out.2.trans (Stp.of_below (qaa (Below.refl _ _) nq) b _)⟩
   have HQY:Hid (Row (wr.drewN nq) B 122 [.string ⟨#[110,117,108,108]⟩, .string ⟨#[116,114,117,101]⟩, .string ⟨#[102,97,108,115,101]⟩]):=Qh (HQ.out.below (qaa (Below.refl _ _) nq) HQ.out.lt)
   clear HX HQ q0 q1 q2;generalize wr.drewN nq=wy at*;go_wp2_with fail;go_roundg 1
   case measure=> omega
   case rel=> exact ⟨2,rfl,by omega,by first | rfl | go_num,HQY,HY⟩
  ·obtain rfl:gk=1:=by omega
   go_upto_region 7 with fail;go_quiet (fail)
   have HY:Hid (RR (wr.drewN nq) b s X (.slice AA L.length cc) L 0∧Stp w (wr.drewN nq) b (.slice AA L.length cc) (.slice AA L.length cc)):=Qh ⟨HX.out.1.below (qaa (Below.refl _ _) nq),HX.out.2.trans (Stp.of_below (qaa (Below.refl _ _) nq) b _)⟩
   have HQY:Hid (Row (wr.drewN nq) B 122 [.string ⟨#[110,117,108,108]⟩, .string ⟨#[116,114,117,101]⟩, .string ⟨#[102,97,108,115,101]⟩]):=Qh (HQ.out.below (qaa (Below.refl _ _) nq) HQ.out.lt)
   clear HX HQ q0 q1 q2;generalize wr.drewN nq=wy at*;go_wp2_with fail;go_roundg 0
   case measure=> omega
   case rel=> exact ⟨3,rfl,by omega,by first | rfl | go_num,HQY,HY⟩
  ·obtain rfl:gk=0:=by omega
   have HY:=HX
   clear HX HQ q0 q1 q2;by_cases hfull:50≤d∨5000≤L.length
   ·have HRR:=Qh (show R= .err 2 by rw [HR.out,if_pos hfull])
    have HF:=Qh (js_rfail' 2 HY.out.1)
    obtain ⟨c2,ff⟩:=HY.out.1.cell2
    by_cases h50:d=50
    ·have h50':(d:Int)=50:=by omega
     have h50a:(50:Int)≤(d:Int):=by omega
     have h50b:decide ((50:Int)≤(d:Int))=true:=decide_eq_true h50a
     clear hfull;go_wp2_with fail;refine HF.out.mono ?_
     rintro en w4 ⟨rfl,HZ⟩;clear HF;go_wp2_with fail;go_ret;rw [HRR.out];exact ⟨rfl,by decide,_,_,_,Qh ⟨HZ.out.1,HY.out.2.trans HZ.out.2⟩⟩
    ·have h50a:¬(50:Int)≤(d:Int):=by omega
     have h50b:decide ((50:Int)≤(d:Int))=false:=decide_eq_false h50a
     have hl5:(5000:Int)≤(L.length:Int):=by omega
     have hl6:decide ((5000:Int)≤(L.length:Int))=true:=decide_eq_true hl5
     clear hfull;go_wp2_with fail;refine HF.out.mono ?_
     rintro en w4 ⟨rfl,HZ⟩;clear HF;go_wp2_with fail;go_ret;rw [HRR.out];exact ⟨rfl,by decide,_,_,_,Qh ⟨HZ.out.1,HY.out.2.trans HZ.out.2⟩⟩
   ·have hRR:R=stringF key X:=by rw [HR.out,if_neg hfull,HX0.out]
    have h50a:¬(50:Int)≤(d:Int):=by omega
    have h50b:decide ((50:Int)≤(d:Int))=false:=decide_eq_false h50a
    have hl5:¬(5000:Int)≤(L.length:Int):=by omega
    have hl6:decide ((5000:Int)≤(L.length:Int))=false:=decide_eq_false hl5
    obtain ⟨c2,ff⟩:=HY.out.1.cell2
    have HT:=Qh (js_rtext' HY.out.1 hs)
    rw [hss]at HT
    unfold stringF at hRR;have hd5:d < 50:=by omega
    have hL5:L.length < 5000:=by omega
    cases hu:unqF X with
    | none=>
     rw [hu]at hRR HT
     unfold txtV textR at HT;dsimp only at hRR HT
     have HRR:=Qh hRR
     clear hRR hfull hu hd5 hL5;go_wp2_with fail;refine HT.out.mono ?_
     rintro en w4 ⟨rfl,HZ⟩;have HF:=Qh (js_rfail' 3 HZ.out.1)
     clear HT;go_wp2_with fail;refine HF.out.mono ?_
     rintro en w5 ⟨rfl,HZ2⟩;clear HF;go_wp2_with fail;go_ret;rw [HRR.out];exact ⟨rfl,by decide,_,_,_,Qh ⟨HZ2.out.1,HY.out.2.trans (HZ.out.2.trans HZ2.out.2)⟩⟩
    | some q=>
     rw [hu]at hRR HT
     unfold txtV textR at HT;dsimp only at hRR HT
     have HRR:=Qh hRR
     have HPP:=Qh (fun w4 (hy:RR w4 b s (X.drop q.2) (.slice AA L.length cc) L 0)=> qe0 w4 b s _ _ L 4 0 key q.1 d hy hd5 hL5)
     clear hRR hfull hu hd5 hL5;generalize sb q.1=T4 at*;go_wp2_with fail;refine HT.out.mono ?_
     rintro en w4 ⟨rfl,HZ⟩;have HP:=Qh (HPP.out w4 HZ.out.1)
     clear HT HPP;go_wp2_with fail;refine HP.out.mono ?_
     rintro en w5 ⟨rfl,v5,HZ2⟩;clear HP;go_wp2_with fail;go_ret;rw [HRR.out];exact ⟨rfl,v5,Qh ⟨HZ2.out.1,HY.out.2.trans (HZ.out.2.trans HZ2.out.2)⟩⟩
end Go.Proofs.YtgmangikcfakgaaGreatDoor
