import Derived.Test.YtgmangikcfakgaaGreatDoorPA32
import Derived.Test.YtgmangikcfakgaaGreatDoorPA33
set_option maxRecDepth 100000
set_option maxHeartbeats 40000000
namespace Go.Proofs.YtgmangikcfakgaaGreatDoor
open Go.RowKit Sh Jt Js Jo
def hz:List Value:=[.string ⟨#[]⟩, .bool false, .slice none 0 0]
theorem qbq (s:ByteArray) (b:Bool) (A:Option Addr) (n c:Nat):([.string s, .bool b, .slice A n c]:List Value).toArray.all (·.oneCell')=true:=all_oneCell_toArray (fun v hv=> by
 simp only [List.mem_cons,List.not_mem_nil,or_false]at hv
 rcases hv with rfl | rfl | rfl <;> rfl)
theorem qdq:hz.toArray.all (·.oneCell')=true:=qbq _ _ _ _ _
structure RhAt (w wr:World):Prop where
 res:Row wr w.heap.size 42 hz
 below:Below w.heap.size w wr
theorem RhAt.next {w wr w':World} (h:RhAt w wr) (hb:Below wr.heap.size wr w'):RhAt w w':=⟨h.res.below hb h.res.lt,h.below.trans (hb.mono h.below.size)⟩
theorem RhAt.new (w:World) {C:Array Value} (hC:C=hz.toArray):RhAt w (w.alloc (.cells C 42)):=by
 subst hC
 exact ⟨Row.new _ _ _,qac _ _⟩
theorem RhAt.kept {w wr w':World} {S:Nat→Prop} (h:RhAt w wr) (k:Kept wr w' S) (hS:∀i,S i→w.heap.size < i):RhAt w w':=
 ⟨h.res.of_block (k.block _ h.res.lt (fun e=> Nat.lt_irrefl _ (hS _ e))),h.below.trans (k.below h.below.size (fun i hi e=> by have:=hS i e;omega))⟩
theorem qap {w wr w':World} (h:Below w.heap.size w wr) (k:Kept wr w' (·=w.heap.size)):Below w.heap.size w w':=
 h.trans (⟨k.os,k.tape,k.output,k.size,fun i hi=> k.block i (Nat.lt_of_lt_of_le hi h.size) (fun e=> by omega)⟩)
namespace Jo
theorem qda {L:List V} (key:List UInt8):(dropA L key).length≤L.length:=by
 by_cases hO:isO L=true
 ·obtain ⟨P,hP⟩:=qbn hO
  have:=qc7 hP key
  omega
 ·unfold dropA
  rw [if_neg hO];exact Nat.zero_le _
end Jo
def EntryPost (w:World) (R:Option Hist) (e:Ending) (w':World):Prop:=
 match R with
 | none=> e= .returned (.tuple #[.agg hz.toArray, .bool false])∧Hid (Below w.heap.size w w')
 | some h=> ∃p:Pe,p.hist=h∧e= .returned (.tuple #[.agg p.enc.toArray, .bool true])∧Hid (OwnVals w' w.heap.size p.rest.enc p.rest.row∧Below w.heap.size w w')
theorem qu5 (w:World) (A:Option Addr) (n c:Nat) (L:List V) (hL:ValsAt w A n c L) (hn:n≤5000) (hs:Short 1000000000 L) (hr:rightPF L=true):
  Calls Tryz.prog 70 #[.slice A n c] w (EntryPost w (entryF L)):=by
 have HB:=Qh (fun W (q:Below w.heap.size w W)=> qd2 W A n c L (hL.below q) (by omega) hs 0 byK)
 have HE:=Qh (fun W (q:Below w.heap.size w W)=> qd2 W A n c L (hL.below q) (by omega) hs 0 emptyK)
 have HDR:=Qh (fun W (q:Below w.heap.size w W)=> qaj (L:=dropA L byK) rfl (qb7 W A n c L (hL.below q) (by omega) hs byK))
 change Hid (∀W,_→Calls _ _ #[_,_, .string ⟨#[99,114,101,97,116,101,100,95,98,121]⟩] _ _)at HB
 change Hid (∀W,_→Calls _ _ #[_,_, .string ⟨#[101,109,112,116,121,95,108,97,121,101,114]⟩] _ _)at HE
 change Hid (∀W,_→Calls _ _ #[_, .string ⟨#[99,114,101,97,116,101,100,95,98,121]⟩] _ _)at HDR
 have HVC:=Qh (fun W (q:Below w.heap.size w W)=> hL.below q)
 have hlen:=hL.len
 have h0:=qav hr
 obtain ⟨b,ob,rfl,hbl,_⟩:=hL.at_ (by omega)
 have HSD:=Qh (qbj hs (key:=byK))
 have HSD2:=Qh (qbj HSD.out (key:=emptyK))
 have hd1:=qda (L:=L) byK
 have hd2:=qda (L:=dropA L byK) emptyK
 have HRT:=Qh hr
 have h00:(0:Int) < (n:Int):=by omega
 clear hL hs hr
 obtain ⟨R,hR⟩:∃R,R=entryF L:=⟨_,rfl⟩
 rw [←hR]
 have HR:=Qh hR
 clear hR
 have pl0:plc none= -1:=rfl
 have pls:∀q:Nat,plc (some q)=(q:Int):=fun _=> rfl
 go_enter Tryz.func70,Tryz.ntmps70
 go_upto_region 1 with fail
 have P0:Hid (RhAt w (w.alloc (Obj.cells hz.toArray 42))):=Qh (RhAt.new w rfl)
 generalize hW0:w.alloc (Obj.cells hz.toArray 42)=w0 at P0
 generalize hW:World.alloc _ _=W'
 obtain rfl:w0=W':=hW0.symm.trans hW
 clear hW hW0
 have C0:w0.cell? ⟨b,ob,none⟩=some (.int .i64 L[0].kind):=by
  have:=((HVC.out w0 P0.out.below).cells h0).1
  rwa [Nat.zero_mul,Nat.add_zero]at this
 have hk0:kindOf L=L[0].kind:=by
  match L,h0 with
  | v::r,_=> rfl
 by_cases h6:L[0].kind=6
 case neg=>
  have hx:R=none:=by rw [HR.out];exact qmg (by rw [hk0];exact h6)
  have cb:(L[0].kind !=6)=true:=bne_iff_ne.2 h6
  clear HR HB HE HDR HVC HSD HSD2 HRT h6 hk0;generalize L[0].kind=y0 at*;have HX:=Qh hx
  clear hx;go_wp2_with (first
   | ((with_reducible refine qao ?_ 42 #[] ?_ hz.toArray ?_ ?_);rfl;rfl;go_must (refine Eq.trans ?_ qb6;kernel_rfl))
   | ((with_reducible refine qaf ?_ 42 (.tmp 2) (.tmp 12) ?_ w.heap.size hz ?_ ?_ hz ?_ ?_ ?_ ?_ ?_);rfl;rfl;go_must (rfl;rfl;rfl;exact P0.out.res;exact qai;exact qdq;intro w9 R9 K9 E9)))
  refine bodyPost_ret (v:= .tuple #[.agg hz.toArray, .bool false]) (qae (fn:=Tryz.f70) (p:=2) (u:=3) rfl _ _ w.heap.size _ hz.toArray _ _ rfl R9.out Tryz.underlying42 rfl qai) rfl ?_
  rw [HX.out];exact ⟨rfl,Qh (qap P0.out.below K9.out)⟩
 rw [h6]at C0
 go_upto_region 4 with fail
 have hqh:w.heap.size < w0.heap.size:=P0.out.res.lt
 have P1:Hid (RhAt w (w0.alloc (Obj.cells hz.toArray 42))):=Qh (P0.out.next (qac _ _))
 have R1:Hid (Row (w0.alloc (Obj.cells hz.toArray 42)) w0.heap.size 42 hz):=Qh (Row.new _ _ _)
 generalize hW0:w0.alloc (Obj.cells hz.toArray 42)=w1 at P1 R1
 generalize hW:World.alloc _ _=W'
 obtain rfl:w1=W':=hW0.symm.trans hW
 clear hW hW0 P0 C0
 generalize w0.heap.size=qh at*
 go_wp2_with fail
 refine (HB.out w1 P1.out.below).mono ?_
 rintro e w2 ⟨rfl,K2⟩
 have P2:=Qh (P1.out.next K2.out)
 have R2:=Qh (R1.out.below K2.out R1.out.lt)
 clear P1 R1 K2 HB
 go_wp2_with fail
 refine (HE.out w2 P2.out.below).mono ?_
 rintro e w3 ⟨rfl,K3⟩
 have P3:=Qh (P2.out.next K3.out)
 have R3:=Qh (R2.out.below K3.out R2.out.lt)
 clear P2 R2 K3 HE
 have hk6:kindOf L=6:=hk0.trans h6
 clear h6 hk0
 have HTN:=Qh (fun key (h:getA L 0 key=none)=> qv0 (L:=L) h)
 have HEN:=Qh (fun (h:getA L 0 emptyK=none)=> qkt (L:=L) h)
 have HX2:=Qh (show sortA (dropA (dropA L byK) emptyK)=srt (dropA (dropA L byK) emptyK)from by
  have hO:isO L=true:=by unfold isO;rw [HRT.out,hk6];rfl
  obtain ⟨P,hP⟩:=qbn hO
  exact qd1 (ObjIs.but (ObjIs.but hP byK) emptyK).right)
 cases hgb:getA L 0 byK with
 | none=>
  rw [pl0];cases hge:getA L 0 emptyK with
  | none=>
   have hx:R=some ⟨textOf (ofKey L byK),decide (kindOf (ofKey L emptyK)=1),srt (dropA (dropA L byK) emptyK)⟩:=by rw [HR.out];exact qct HRT.out hk6 (fun p hp h=> by rw [hgb]at h;cases h) (fun p hp h=> by rw [hge]at h;cases h)
   have HEX:=Qh (show false=decide (kindOf (ofKey L emptyK)=1)from (HEN.out hge).symm)
   rw [pl0];have HX:=Qh hx
   clear hx;have HBX:=Qh (show (⟨#[]⟩:ByteArray)=sb (textOf (ofKey L byK))from by rw [HTN.out byK hgb];rfl)
   generalize hX1:dropA L byK=X1 at*;clear HR HRT HTN HEN;have r0:w3.cell? ⟨qh,0,none⟩=some (.string ⟨#[]⟩):=R3.out.cell (i:=0) rfl
   have f0:w3.frozen? ⟨qh,0,none⟩=false:=R3.out.frozen 0
   go_upto_region 10 with fail;have P4:=P3
   have R4:Hid (Row w3 qh 42 [.string ⟨#[]⟩, .bool false, .slice none 0 0]):=R3
   clear r0 f0 P3 R3;generalize w3=w4 at*;have r1:w4.cell? ⟨qh,1,none⟩=some (.bool false):=R4.out.cell (i:=1) rfl
   have f1:w4.frozen? ⟨qh,1,none⟩=false:=R4.out.frozen 1
   go_upto_region 11 with fail;have K5:=Qh (show Kept w4 (w4.setCell ⟨qh,1,none⟩ (.bool false)) (·=qh)from (Kept.refl w4 (·=qh)).setCell (a:=⟨qh,1,none⟩) (.inr rfl) _)
   have P5:=Qh (P4.out.kept K5.out (fun i e=> by rw [e];exact hqh))
   have R5:=Qh (show Row (w4.setCell ⟨qh,1,none⟩ (.bool false)) qh 42 [.string ⟨#[]⟩, .bool false, .slice none 0 0]from R4.out.set 1 _)
   clear r1 f1 P4 R4 K5;generalize w4.setCell ⟨qh,1,none⟩ (.bool false)=w5 at*;have HDX:=Qh (HDR.out w5 P5.out.below)
   go_wp2_with fail;refine HDX.out.mono ?_
   rintro e w10 ⟨A10,c10,rfl,K10⟩;have P10:=Qh (P5.out.next K10.out.2.2)
   have R10:=Qh (show Row w10 qh 42 _ from R5.out.below K10.out.2.2 R5.out.lt)
   have HV10:=Qh K10.out.2.1
   clear P5 R5 K10 HDX;go_wp2_with fail;refine (show Calls _ _ #[_, .string ⟨#[101,109,112,116,121,95,108,97,121,101,114]⟩] _ _ from qaj (L:=dropA X1 emptyK) rfl (qb7 w10 A10 X1.length c10 X1 HV10.out (by omega) HSD.out emptyK)).mono ?_
   rintro e w11 ⟨A11,c11,rfl,K11⟩;have P11:=Qh (P10.out.next K11.out.2.2)
   have R11:=Qh (show Row w11 qh 42 _ from R10.out.below K11.out.2.2 R10.out.lt)
   have HV11:=Qh K11.out.2.1
   clear P10 R10 K11 HV10;generalize dropA X1 emptyK=X2 at*;go_wp2_with fail;refine (qaj (L:=sortA X2) rfl (qco w11 A11 X2.length c11 X2 HV11.out (by omega) HSD2.out)).mono ?_
   rintro e w12 ⟨A12,c12,rfl,K12⟩;have P12:=Qh (P11.out.next K12.out.2.2)
   have R12:=Qh (show Row w12 qh 42 _ from R11.out.below K12.out.2.2 R11.out.lt)
   have HR12:=Qh (show OwnVals w12 (qh+1) (.slice A12 (sortA X2).length c12) (sortA X2)from K12.out.1.mono R11.out.lt)
   clear P11 R11 K12 HV11;generalize hsx:(sortA X2).length=sx at*;have HSX:=Qh hsx
   clear hsx;have c2:w12.cell? ⟨qh,2,none⟩=some (.slice none 0 0):=R12.out.cell (i:=2) rfl
   have f2:w12.frozen? ⟨qh,2,none⟩=false:=R12.out.frozen 2
   have K13:=Qh (show Kept w12 (w12.setCell ⟨qh,2,none⟩ (.slice A12 sx c12)) (·=qh)from (Kept.refl w12 (·=qh)).setCell (a:=⟨qh,2,none⟩) (.inr rfl) _)
   have P13:=Qh (P12.out.kept K13.out (fun i e=> by rw [e];exact hqh))
   have HR13:=Qh (HR12.out.kept K13.out (fun b e eb=> by have:=(HR12.out.block e).1;omega))
   have R13:=Qh (show Row (w12.setCell ⟨qh,2,none⟩ (.slice A12 sx c12)) qh 42 [.string ⟨#[]⟩, .bool false, .slice A12 sx c12]from R12.out.set 2 _)
   clear P12 R12 HR12 K13;go_upto_region 12 with fail;generalize w12.setCell ⟨qh,2,none⟩ (.slice A12 sx c12)=w13 at*;clear c2 f2;go_wp2_with (first
    | ((with_reducible refine qas ?_ 42 (.tmp 4) ?_ qh 0 [.string ⟨#[]⟩, .bool false, .slice A12 sx c12] #[.string ⟨#[]⟩, .bool false, .slice A12 sx c12] ?_ _ ?_ Tryz.underlying42 ?_ ?_ ?_ ?_);rfl;rfl;go_must (rfl;exact qan R13.out;rfl;exact qai;rfl))
    | ((with_reducible refine qaf ?_ 42 (.tmp 2) (.tmp 72) ?_ w.heap.size [.string ⟨#[]⟩, .bool false, .slice A12 sx c12] ?_ ?_ hz ?_ ?_ ?_ ?_ ?_);rfl;rfl;go_must (rfl;rfl;rfl;exact P13.out.res;exact qai;exact qbq _ _ _ _ _;intro wz Rz Kz Ez)))
   refine bodyPost_ret (v:= .tuple #[.agg #[.string ⟨#[]⟩, .bool false, .slice A12 sx c12], .bool true]) (qae (fn:=Tryz.f70) (p:=2) (u:=3) rfl _ _ w.heap.size _ #[.string ⟨#[]⟩, .bool false, .slice A12 sx c12] _ _ rfl Rz.out Tryz.underlying42 rfl qai) rfl ?_
   rw [HX.out];refine ⟨⟨textOf (ofKey L byK),false,⟨A12,c12,sortA X2⟩⟩, ?_, ?_,Qh ⟨?_,qap P13.out.below Kz.out⟩⟩
   ·show Hist.mk _ _ _=Hist.mk _ _ _
    rw [HEX.out,HX2.out]
   ·show _=Ending.returned (.tuple #[.agg #[.string (sb (textOf (ofKey L byK))), .bool false, .slice A12 (sortA X2).length c12], .bool true])
    rw [HSX.out,HBX.out]
   ·show OwnVals wz w.heap.size (.slice A12 (sortA X2).length c12) (sortA X2)
    rw [HSX.out];exact (HR13.out.kept Kz.out (fun b e eb=> by have:=(HR13.out.block e).1;omega)).mono (by omega)
  | some m=>
   rw [pls];have hm:=(qbb hge).1
   have hm0:¬(m:Int) < 0:=by omega
   have hm9:(0:Int)≤(m:Int):=by omega
   have hmn:(m:Int) < (n:Int):=by omega
   obtain ⟨M0, -, -, -⟩:=(HVC.out w3 P3.out.below).cells hm
   have HMC:=Qh (fun W (q:Below w.heap.size w W)=> ((HVC.out W q).cells hm).1)
   have hem:=qpq hge (hp:=hm)
   by_cases e1:L[m].kind=1
   case pos=>
    have hx:R=some ⟨textOf (ofKey L byK),decide (kindOf (ofKey L emptyK)=1),srt (dropA (dropA L byK) emptyK)⟩:=by rw [HR.out];exact qct HRT.out hk6 (fun p hp h=> by rw [hgb]at h;cases h) (fun p hp h=> by rw [hge]at h;cases h;exact .inl e1)
    have HEX:=Qh (show true=decide (kindOf (ofKey L emptyK)=1)from by rw [hem];exact (decide_eq_true e1).symm)
    rw [e1]at M0 HMC
    have HX:=Qh hx
    clear hx;have HBX:=Qh (show (⟨#[]⟩:ByteArray)=sb (textOf (ofKey L byK))from by rw [HTN.out byK hgb];rfl)
    generalize hX1:dropA L byK=X1 at*;clear HR HRT HTN HEN;have r0:w3.cell? ⟨qh,0,none⟩=some (.string ⟨#[]⟩):=R3.out.cell (i:=0) rfl
    have f0:w3.frozen? ⟨qh,0,none⟩=false:=R3.out.frozen 0
    go_upto_region 10 with fail;have P4:=P3
    have R4:Hid (Row w3 qh 42 [.string ⟨#[]⟩, .bool false, .slice none 0 0]):=R3
    clear r0 f0 P3 R3;generalize w3=w4 at*;have M4:=HMC.out w4 P4.out.below
    clear HMC M0;have r1:w4.cell? ⟨qh,1,none⟩=some (.bool false):=R4.out.cell (i:=1) rfl
    have f1:w4.frozen? ⟨qh,1,none⟩=false:=R4.out.frozen 1
    go_upto_region 11 with fail;have K5:=Qh (show Kept w4 (w4.setCell ⟨qh,1,none⟩ (.bool true)) (·=qh)from (Kept.refl w4 (·=qh)).setCell (a:=⟨qh,1,none⟩) (.inr rfl) _)
    have P5:=Qh (P4.out.kept K5.out (fun i e=> by rw [e];exact hqh))
    have R5:=Qh (show Row (w4.setCell ⟨qh,1,none⟩ (.bool true)) qh 42 [.string ⟨#[]⟩, .bool true, .slice none 0 0]from R4.out.set 1 _)
    clear r1 f1 P4 R4 K5;generalize w4.setCell ⟨qh,1,none⟩ (.bool true)=w5 at*;have HDX:=Qh (HDR.out w5 P5.out.below)
    go_wp2_with fail;refine HDX.out.mono ?_
    rintro e w10 ⟨A10,c10,rfl,K10⟩;have P10:=Qh (P5.out.next K10.out.2.2)
    have R10:=Qh (show Row w10 qh 42 _ from R5.out.below K10.out.2.2 R5.out.lt)
    have HV10:=Qh K10.out.2.1
    clear P5 R5 K10 HDX;go_wp2_with fail;refine (show Calls _ _ #[_, .string ⟨#[101,109,112,116,121,95,108,97,121,101,114]⟩] _ _ from qaj (L:=dropA X1 emptyK) rfl (qb7 w10 A10 X1.length c10 X1 HV10.out (by omega) HSD.out emptyK)).mono ?_
    rintro e w11 ⟨A11,c11,rfl,K11⟩;have P11:=Qh (P10.out.next K11.out.2.2)
    have R11:=Qh (show Row w11 qh 42 _ from R10.out.below K11.out.2.2 R10.out.lt)
    have HV11:=Qh K11.out.2.1
    clear P10 R10 K11 HV10;generalize dropA X1 emptyK=X2 at*;go_wp2_with fail;refine (qaj (L:=sortA X2) rfl (qco w11 A11 X2.length c11 X2 HV11.out (by omega) HSD2.out)).mono ?_
    rintro e w12 ⟨A12,c12,rfl,K12⟩;have P12:=Qh (P11.out.next K12.out.2.2)
    have R12:=Qh (show Row w12 qh 42 _ from R11.out.below K12.out.2.2 R11.out.lt)
    have HR12:=Qh (show OwnVals w12 (qh+1) (.slice A12 (sortA X2).length c12) (sortA X2)from K12.out.1.mono R11.out.lt)
    clear P11 R11 K12 HV11;generalize hsx:(sortA X2).length=sx at*;have HSX:=Qh hsx
    clear hsx;have c2:w12.cell? ⟨qh,2,none⟩=some (.slice none 0 0):=R12.out.cell (i:=2) rfl
    have f2:w12.frozen? ⟨qh,2,none⟩=false:=R12.out.frozen 2
    have K13:=Qh (show Kept w12 (w12.setCell ⟨qh,2,none⟩ (.slice A12 sx c12)) (·=qh)from (Kept.refl w12 (·=qh)).setCell (a:=⟨qh,2,none⟩) (.inr rfl) _)
    have P13:=Qh (P12.out.kept K13.out (fun i e=> by rw [e];exact hqh))
    have HR13:=Qh (HR12.out.kept K13.out (fun b e eb=> by have:=(HR12.out.block e).1;omega))
    have R13:=Qh (show Row (w12.setCell ⟨qh,2,none⟩ (.slice A12 sx c12)) qh 42 [.string ⟨#[]⟩, .bool true, .slice A12 sx c12]from R12.out.set 2 _)
    clear P12 R12 HR12 K13;go_upto_region 12 with fail;generalize w12.setCell ⟨qh,2,none⟩ (.slice A12 sx c12)=w13 at*;clear c2 f2;go_wp2_with (first
     | ((with_reducible refine qas ?_ 42 (.tmp 4) ?_ qh 0 [.string ⟨#[]⟩, .bool true, .slice A12 sx c12] #[.string ⟨#[]⟩, .bool true, .slice A12 sx c12] ?_ _ ?_ Tryz.underlying42 ?_ ?_ ?_ ?_);rfl;rfl;go_must (rfl;exact qan R13.out;rfl;exact qai;rfl))
     | ((with_reducible refine qaf ?_ 42 (.tmp 2) (.tmp 72) ?_ w.heap.size [.string ⟨#[]⟩, .bool true, .slice A12 sx c12] ?_ ?_ hz ?_ ?_ ?_ ?_ ?_);rfl;rfl;go_must (rfl;rfl;rfl;exact P13.out.res;exact qai;exact qbq _ _ _ _ _;intro wz Rz Kz Ez)))
    refine bodyPost_ret (v:= .tuple #[.agg #[.string ⟨#[]⟩, .bool true, .slice A12 sx c12], .bool true]) (qae (fn:=Tryz.f70) (p:=2) (u:=3) rfl _ _ w.heap.size _ #[.string ⟨#[]⟩, .bool true, .slice A12 sx c12] _ _ rfl Rz.out Tryz.underlying42 rfl qai) rfl ?_
    rw [HX.out];refine ⟨⟨textOf (ofKey L byK),true,⟨A12,c12,sortA X2⟩⟩, ?_, ?_,Qh ⟨?_,qap P13.out.below Kz.out⟩⟩
    ·show Hist.mk _ _ _=Hist.mk _ _ _
     rw [HEX.out,HX2.out]
    ·show _=Ending.returned (.tuple #[.agg #[.string (sb (textOf (ofKey L byK))), .bool true, .slice A12 (sortA X2).length c12], .bool true])
     rw [HSX.out,HBX.out]
    ·show OwnVals wz w.heap.size (.slice A12 (sortA X2).length c12) (sortA X2)
     rw [HSX.out];exact (HR13.out.kept Kz.out (fun b e eb=> by have:=(HR13.out.block e).1;omega)).mono (by omega)
   have cb1:(L[m].kind !=1)=true:=bne_iff_ne.2 e1
   have cb3:(L[m].kind==1)=false:=beq_eq_false_iff_ne.2 e1
   by_cases e2:L[m].kind=2
   case pos=>
    have hx:R=some ⟨textOf (ofKey L byK),decide (kindOf (ofKey L emptyK)=1),srt (dropA (dropA L byK) emptyK)⟩:=by rw [HR.out];exact qct HRT.out hk6 (fun p hp h=> by rw [hgb]at h;cases h) (fun p hp h=> by rw [hge]at h;cases h;exact .inr e2)
    have HEX:=Qh (show false=decide (kindOf (ofKey L emptyK)=1)from by rw [hem];exact (decide_eq_false e1).symm)
    rw [e2]at M0 HMC
    have HX:=Qh hx
    clear hx;have HBX:=Qh (show (⟨#[]⟩:ByteArray)=sb (textOf (ofKey L byK))from by rw [HTN.out byK hgb];rfl)
    generalize hX1:dropA L byK=X1 at*;clear HR HRT HTN HEN;have r0:w3.cell? ⟨qh,0,none⟩=some (.string ⟨#[]⟩):=R3.out.cell (i:=0) rfl
    have f0:w3.frozen? ⟨qh,0,none⟩=false:=R3.out.frozen 0
    go_upto_region 10 with fail;have P4:=P3
    have R4:Hid (Row w3 qh 42 [.string ⟨#[]⟩, .bool false, .slice none 0 0]):=R3
    clear r0 f0 P3 R3;generalize w3=w4 at*;have M4:=HMC.out w4 P4.out.below
    clear HMC M0;have r1:w4.cell? ⟨qh,1,none⟩=some (.bool false):=R4.out.cell (i:=1) rfl
    have f1:w4.frozen? ⟨qh,1,none⟩=false:=R4.out.frozen 1
    go_upto_region 11 with fail;have K5:=Qh (show Kept w4 (w4.setCell ⟨qh,1,none⟩ (.bool false)) (·=qh)from (Kept.refl w4 (·=qh)).setCell (a:=⟨qh,1,none⟩) (.inr rfl) _)
    have P5:=Qh (P4.out.kept K5.out (fun i e=> by rw [e];exact hqh))
    have R5:=Qh (show Row (w4.setCell ⟨qh,1,none⟩ (.bool false)) qh 42 [.string ⟨#[]⟩, .bool false, .slice none 0 0]from R4.out.set 1 _)
    clear r1 f1 P4 R4 K5;generalize w4.setCell ⟨qh,1,none⟩ (.bool false)=w5 at*;have HDX:=Qh (HDR.out w5 P5.out.below)
    go_wp2_with fail;refine HDX.out.mono ?_
    rintro e w10 ⟨A10,c10,rfl,K10⟩;have P10:=Qh (P5.out.next K10.out.2.2)
    have R10:=Qh (show Row w10 qh 42 _ from R5.out.below K10.out.2.2 R5.out.lt)
    have HV10:=Qh K10.out.2.1
    clear P5 R5 K10 HDX;go_wp2_with fail;refine (show Calls _ _ #[_, .string ⟨#[101,109,112,116,121,95,108,97,121,101,114]⟩] _ _ from qaj (L:=dropA X1 emptyK) rfl (qb7 w10 A10 X1.length c10 X1 HV10.out (by omega) HSD.out emptyK)).mono ?_
    rintro e w11 ⟨A11,c11,rfl,K11⟩;have P11:=Qh (P10.out.next K11.out.2.2)
    have R11:=Qh (show Row w11 qh 42 _ from R10.out.below K11.out.2.2 R10.out.lt)
    have HV11:=Qh K11.out.2.1
    clear P10 R10 K11 HV10;generalize dropA X1 emptyK=X2 at*;go_wp2_with fail;refine (qaj (L:=sortA X2) rfl (qco w11 A11 X2.length c11 X2 HV11.out (by omega) HSD2.out)).mono ?_
    rintro e w12 ⟨A12,c12,rfl,K12⟩;have P12:=Qh (P11.out.next K12.out.2.2)
    have R12:=Qh (show Row w12 qh 42 _ from R11.out.below K12.out.2.2 R11.out.lt)
    have HR12:=Qh (show OwnVals w12 (qh+1) (.slice A12 (sortA X2).length c12) (sortA X2)from K12.out.1.mono R11.out.lt)
    clear P11 R11 K12 HV11;generalize hsx:(sortA X2).length=sx at*;have HSX:=Qh hsx
    clear hsx;have c2:w12.cell? ⟨qh,2,none⟩=some (.slice none 0 0):=R12.out.cell (i:=2) rfl
    have f2:w12.frozen? ⟨qh,2,none⟩=false:=R12.out.frozen 2
    have K13:=Qh (show Kept w12 (w12.setCell ⟨qh,2,none⟩ (.slice A12 sx c12)) (·=qh)from (Kept.refl w12 (·=qh)).setCell (a:=⟨qh,2,none⟩) (.inr rfl) _)
    have P13:=Qh (P12.out.kept K13.out (fun i e=> by rw [e];exact hqh))
    have HR13:=Qh (HR12.out.kept K13.out (fun b e eb=> by have:=(HR12.out.block e).1;omega))
    have R13:=Qh (show Row (w12.setCell ⟨qh,2,none⟩ (.slice A12 sx c12)) qh 42 [.string ⟨#[]⟩, .bool false, .slice A12 sx c12]from R12.out.set 2 _)
    clear P12 R12 HR12 K13;go_upto_region 12 with fail;generalize w12.setCell ⟨qh,2,none⟩ (.slice A12 sx c12)=w13 at*;clear c2 f2;go_wp2_with (first
     | ((with_reducible refine qas ?_ 42 (.tmp 4) ?_ qh 0 [.string ⟨#[]⟩, .bool false, .slice A12 sx c12] #[.string ⟨#[]⟩, .bool false, .slice A12 sx c12] ?_ _ ?_ Tryz.underlying42 ?_ ?_ ?_ ?_);rfl;rfl;go_must (rfl;exact qan R13.out;rfl;exact qai;rfl))
     | ((with_reducible refine qaf ?_ 42 (.tmp 2) (.tmp 72) ?_ w.heap.size [.string ⟨#[]⟩, .bool false, .slice A12 sx c12] ?_ ?_ hz ?_ ?_ ?_ ?_ ?_);rfl;rfl;go_must (rfl;rfl;rfl;exact P13.out.res;exact qai;exact qbq _ _ _ _ _;intro wz Rz Kz Ez)))
    refine bodyPost_ret (v:= .tuple #[.agg #[.string ⟨#[]⟩, .bool false, .slice A12 sx c12], .bool true]) (qae (fn:=Tryz.f70) (p:=2) (u:=3) rfl _ _ w.heap.size _ #[.string ⟨#[]⟩, .bool false, .slice A12 sx c12] _ _ rfl Rz.out Tryz.underlying42 rfl qai) rfl ?_
    rw [HX.out];refine ⟨⟨textOf (ofKey L byK),false,⟨A12,c12,sortA X2⟩⟩, ?_, ?_,Qh ⟨?_,qap P13.out.below Kz.out⟩⟩
    ·show Hist.mk _ _ _=Hist.mk _ _ _
     rw [HEX.out,HX2.out]
    ·show _=Ending.returned (.tuple #[.agg #[.string (sb (textOf (ofKey L byK))), .bool false, .slice A12 (sortA X2).length c12], .bool true])
     rw [HSX.out,HBX.out]
    ·show OwnVals wz w.heap.size (.slice A12 (sortA X2).length c12) (sortA X2)
     rw [HSX.out];exact (HR13.out.kept Kz.out (fun b e eb=> by have:=(HR13.out.block e).1;omega)).mono (by omega)
   have hx:R=none:=by rw [HR.out];exact qp6 hge e1 e2
   have cb2:(L[m].kind !=2)=true:=bne_iff_ne.2 e2
   clear HR HDR HVC HSD HSD2 HRT HTN HEN HX2 HMC hem;generalize L[m]=vm at*;generalize vm.kind=mk at*;have HX:=Qh hx
   clear hx;go_wp2_with (first
    | ((with_reducible refine qao ?_ 42 #[] ?_ hz.toArray ?_ ?_);rfl;rfl;go_must (refine Eq.trans ?_ qb6;kernel_rfl))
    | ((with_reducible refine qaf ?_ 42 (.tmp 2) (.tmp 47) ?_ w.heap.size hz ?_ ?_ hz ?_ ?_ ?_ ?_ ?_);rfl;rfl;go_must (rfl;rfl;rfl;exact P3.out.res;exact qai;exact qdq;intro w9 R9 K9 E9)))
   refine bodyPost_ret (v:= .tuple #[.agg hz.toArray, .bool false]) (qae (fn:=Tryz.f70) (p:=2) (u:=3) rfl _ _ w.heap.size _ hz.toArray _ _ rfl R9.out Tryz.underlying42 rfl qai) rfl ?_
   rw [HX.out];exact ⟨rfl,Qh (qap P3.out.below K9.out)⟩
 | some k=>
  rw [pls];have hk:=(qbb hgb).1
  have hk0:¬(k:Int) < 0:=by omega
  have hk9:(0:Int)≤(k:Int):=by omega
  have hkn:(k:Int) < (n:Int):=by omega
  obtain ⟨B0, -,B2, -⟩:=(HVC.out w3 P3.out.below).cells hk
  by_cases b4:L[k].kind=4
  case neg=>
   have hx:R=none:=by rw [HR.out];exact qx7 hgb b4
   have cb:(L[k].kind !=4)=true:=bne_iff_ne.2 b4
   generalize plc (getA L 0 emptyK)=zm at*;clear HR HDR HVC HSD HSD2 HRT HTN HEN HX2;generalize L[k]=vk at*;generalize vk.kind=y0 at*;have HX:=Qh hx
   clear hx;go_wp2_with (first
    | ((with_reducible refine qao ?_ 42 #[] ?_ hz.toArray ?_ ?_);rfl;rfl;go_must (refine Eq.trans ?_ qb6;kernel_rfl))
    | ((with_reducible refine qaf ?_ 42 (.tmp 2) (.tmp 47) ?_ w.heap.size hz ?_ ?_ hz ?_ ?_ ?_ ?_ ?_);rfl;rfl;go_must (rfl;rfl;rfl;exact P3.out.res;exact qai;exact qdq;intro w9 R9 K9 E9)))
   refine bodyPost_ret (v:= .tuple #[.agg hz.toArray, .bool false]) (qae (fn:=Tryz.f70) (p:=2) (u:=3) rfl _ _ w.heap.size _ hz.toArray _ _ rfl R9.out Tryz.underlying42 rfl qai) rfl ?_
   rw [HX.out];exact ⟨rfl,Qh (qap P3.out.below K9.out)⟩
  rw [b4]at B0
  cases hge:getA L 0 emptyK with
  | none=>
   have hx:R=some ⟨textOf (ofKey L byK),decide (kindOf (ofKey L emptyK)=1),srt (dropA (dropA L byK) emptyK)⟩:=by rw [HR.out];exact qct HRT.out hk6 (fun p hp h=> by rw [hgb]at h;cases h;exact b4) (fun p hp h=> by rw [hge]at h;cases h)
   have HEX:=Qh (show false=decide (kindOf (ofKey L emptyK)=1)from (HEN.out hge).symm)
   rw [pl0];have HX:=Qh hx
   clear hx;have HBX:=Qh (show sb L[k].text=sb (textOf (ofKey L byK))from by rw [ql9 hgb (hp:=hk)])
   generalize sb L[k].text=tb at*;generalize hX1:dropA L byK=X1 at*;clear HR HRT HTN HEN;have r0:w3.cell? ⟨qh,0,none⟩=some (.string ⟨#[]⟩):=R3.out.cell (i:=0) rfl
   have f0:w3.frozen? ⟨qh,0,none⟩=false:=R3.out.frozen 0
   go_upto_region 10 with fail;have K4:=Qh (show Kept w3 (w3.setCell ⟨qh,0,none⟩ (.string tb)) (·=qh)from (Kept.refl w3 (·=qh)).setCell (a:=⟨qh,0,none⟩) (.inr rfl) _)
   have P4:=Qh (P3.out.kept K4.out (fun i e=> by rw [e];exact hqh))
   have R4:=Qh (show Row (w3.setCell ⟨qh,0,none⟩ (.string tb)) qh 42 [.string tb, .bool false, .slice none 0 0]from R3.out.set 0 _)
   clear r0 f0 P3 R3 K4;generalize w3.setCell ⟨qh,0,none⟩ (.string tb)=w4 at*;have r1:w4.cell? ⟨qh,1,none⟩=some (.bool false):=R4.out.cell (i:=1) rfl
   have f1:w4.frozen? ⟨qh,1,none⟩=false:=R4.out.frozen 1
   go_upto_region 11 with fail;have K5:=Qh (show Kept w4 (w4.setCell ⟨qh,1,none⟩ (.bool false)) (·=qh)from (Kept.refl w4 (·=qh)).setCell (a:=⟨qh,1,none⟩) (.inr rfl) _)
   have P5:=Qh (P4.out.kept K5.out (fun i e=> by rw [e];exact hqh))
   have R5:=Qh (show Row (w4.setCell ⟨qh,1,none⟩ (.bool false)) qh 42 [.string tb, .bool false, .slice none 0 0]from R4.out.set 1 _)
   clear r1 f1 P4 R4 K5;generalize w4.setCell ⟨qh,1,none⟩ (.bool false)=w5 at*;have HDX:=Qh (HDR.out w5 P5.out.below)
   go_wp2_with fail;refine HDX.out.mono ?_
   rintro e w10 ⟨A10,c10,rfl,K10⟩;have P10:=Qh (P5.out.next K10.out.2.2)
   have R10:=Qh (show Row w10 qh 42 _ from R5.out.below K10.out.2.2 R5.out.lt)
   have HV10:=Qh K10.out.2.1
   clear P5 R5 K10 HDX;go_wp2_with fail;refine (show Calls _ _ #[_, .string ⟨#[101,109,112,116,121,95,108,97,121,101,114]⟩] _ _ from qaj (L:=dropA X1 emptyK) rfl (qb7 w10 A10 X1.length c10 X1 HV10.out (by omega) HSD.out emptyK)).mono ?_
   rintro e w11 ⟨A11,c11,rfl,K11⟩;have P11:=Qh (P10.out.next K11.out.2.2)
   have R11:=Qh (show Row w11 qh 42 _ from R10.out.below K11.out.2.2 R10.out.lt)
   have HV11:=Qh K11.out.2.1
   clear P10 R10 K11 HV10;generalize dropA X1 emptyK=X2 at*;go_wp2_with fail;refine (qaj (L:=sortA X2) rfl (qco w11 A11 X2.length c11 X2 HV11.out (by omega) HSD2.out)).mono ?_
   rintro e w12 ⟨A12,c12,rfl,K12⟩;have P12:=Qh (P11.out.next K12.out.2.2)
   have R12:=Qh (show Row w12 qh 42 _ from R11.out.below K12.out.2.2 R11.out.lt)
   have HR12:=Qh (show OwnVals w12 (qh+1) (.slice A12 (sortA X2).length c12) (sortA X2)from K12.out.1.mono R11.out.lt)
   clear P11 R11 K12 HV11;generalize hsx:(sortA X2).length=sx at*;have HSX:=Qh hsx
   clear hsx;have c2:w12.cell? ⟨qh,2,none⟩=some (.slice none 0 0):=R12.out.cell (i:=2) rfl
   have f2:w12.frozen? ⟨qh,2,none⟩=false:=R12.out.frozen 2
   have K13:=Qh (show Kept w12 (w12.setCell ⟨qh,2,none⟩ (.slice A12 sx c12)) (·=qh)from (Kept.refl w12 (·=qh)).setCell (a:=⟨qh,2,none⟩) (.inr rfl) _)
   have P13:=Qh (P12.out.kept K13.out (fun i e=> by rw [e];exact hqh))
   have HR13:=Qh (HR12.out.kept K13.out (fun b e eb=> by have:=(HR12.out.block e).1;omega))
   have R13:=Qh (show Row (w12.setCell ⟨qh,2,none⟩ (.slice A12 sx c12)) qh 42 [.string tb, .bool false, .slice A12 sx c12]from R12.out.set 2 _)
   clear P12 R12 HR12 K13;go_upto_region 12 with fail;generalize w12.setCell ⟨qh,2,none⟩ (.slice A12 sx c12)=w13 at*;clear c2 f2;go_wp2_with (first
    | ((with_reducible refine qas ?_ 42 (.tmp 4) ?_ qh 0 [.string tb, .bool false, .slice A12 sx c12] #[.string tb, .bool false, .slice A12 sx c12] ?_ _ ?_ Tryz.underlying42 ?_ ?_ ?_ ?_);rfl;rfl;go_must (rfl;exact qan R13.out;rfl;exact qai;rfl))
    | ((with_reducible refine qaf ?_ 42 (.tmp 2) (.tmp 72) ?_ w.heap.size [.string tb, .bool false, .slice A12 sx c12] ?_ ?_ hz ?_ ?_ ?_ ?_ ?_);rfl;rfl;go_must (rfl;rfl;rfl;exact P13.out.res;exact qai;exact qbq _ _ _ _ _;intro wz Rz Kz Ez)))
   refine bodyPost_ret (v:= .tuple #[.agg #[.string tb, .bool false, .slice A12 sx c12], .bool true]) (qae (fn:=Tryz.f70) (p:=2) (u:=3) rfl _ _ w.heap.size _ #[.string tb, .bool false, .slice A12 sx c12] _ _ rfl Rz.out Tryz.underlying42 rfl qai) rfl ?_
   rw [HX.out];refine ⟨⟨textOf (ofKey L byK),false,⟨A12,c12,sortA X2⟩⟩, ?_, ?_,Qh ⟨?_,qap P13.out.below Kz.out⟩⟩
   ·show Hist.mk _ _ _=Hist.mk _ _ _
    rw [HEX.out,HX2.out]
   ·show _=Ending.returned (.tuple #[.agg #[.string (sb (textOf (ofKey L byK))), .bool false, .slice A12 (sortA X2).length c12], .bool true])
    rw [HSX.out,HBX.out]
   ·show OwnVals wz w.heap.size (.slice A12 (sortA X2).length c12) (sortA X2)
    rw [HSX.out];exact (HR13.out.kept Kz.out (fun b e eb=> by have:=(HR13.out.block e).1;omega)).mono (by omega)
  | some m=>
   rw [pls];have hm:=(qbb hge).1
   have hm0:¬(m:Int) < 0:=by omega
   have hm9:(0:Int)≤(m:Int):=by omega
   have hmn:(m:Int) < (n:Int):=by omega
   obtain ⟨M0, -, -, -⟩:=(HVC.out w3 P3.out.below).cells hm
   have HMC:=Qh (fun W (q:Below w.heap.size w W)=> ((HVC.out W q).cells hm).1)
   have hem:=qpq hge (hp:=hm)
   by_cases e1:L[m].kind=1
   case pos=>
    have hx:R=some ⟨textOf (ofKey L byK),decide (kindOf (ofKey L emptyK)=1),srt (dropA (dropA L byK) emptyK)⟩:=by rw [HR.out];exact qct HRT.out hk6 (fun p hp h=> by rw [hgb]at h;cases h;exact b4) (fun p hp h=> by rw [hge]at h;cases h;exact .inl e1)
    have HEX:=Qh (show true=decide (kindOf (ofKey L emptyK)=1)from by rw [hem];exact (decide_eq_true e1).symm)
    rw [e1]at M0 HMC
    have HX:=Qh hx
    clear hx;have HBX:=Qh (show sb L[k].text=sb (textOf (ofKey L byK))from by rw [ql9 hgb (hp:=hk)])
    generalize sb L[k].text=tb at*;generalize hX1:dropA L byK=X1 at*;clear HR HRT HTN HEN;have r0:w3.cell? ⟨qh,0,none⟩=some (.string ⟨#[]⟩):=R3.out.cell (i:=0) rfl
    have f0:w3.frozen? ⟨qh,0,none⟩=false:=R3.out.frozen 0
    go_upto_region 10 with fail;have K4:=Qh (show Kept w3 (w3.setCell ⟨qh,0,none⟩ (.string tb)) (·=qh)from (Kept.refl w3 (·=qh)).setCell (a:=⟨qh,0,none⟩) (.inr rfl) _)
    have P4:=Qh (P3.out.kept K4.out (fun i e=> by rw [e];exact hqh))
    have R4:=Qh (show Row (w3.setCell ⟨qh,0,none⟩ (.string tb)) qh 42 [.string tb, .bool false, .slice none 0 0]from R3.out.set 0 _)
    clear r0 f0 P3 R3 K4;generalize w3.setCell ⟨qh,0,none⟩ (.string tb)=w4 at*;have M4:=HMC.out w4 P4.out.below
    clear HMC M0;have r1:w4.cell? ⟨qh,1,none⟩=some (.bool false):=R4.out.cell (i:=1) rfl
    have f1:w4.frozen? ⟨qh,1,none⟩=false:=R4.out.frozen 1
    go_upto_region 11 with fail;have K5:=Qh (show Kept w4 (w4.setCell ⟨qh,1,none⟩ (.bool true)) (·=qh)from (Kept.refl w4 (·=qh)).setCell (a:=⟨qh,1,none⟩) (.inr rfl) _)
    have P5:=Qh (P4.out.kept K5.out (fun i e=> by rw [e];exact hqh))
    have R5:=Qh (show Row (w4.setCell ⟨qh,1,none⟩ (.bool true)) qh 42 [.string tb, .bool true, .slice none 0 0]from R4.out.set 1 _)
    clear r1 f1 P4 R4 K5;generalize w4.setCell ⟨qh,1,none⟩ (.bool true)=w5 at*;have HDX:=Qh (HDR.out w5 P5.out.below)
    go_wp2_with fail;refine HDX.out.mono ?_
    rintro e w10 ⟨A10,c10,rfl,K10⟩;have P10:=Qh (P5.out.next K10.out.2.2)
    have R10:=Qh (show Row w10 qh 42 _ from R5.out.below K10.out.2.2 R5.out.lt)
    have HV10:=Qh K10.out.2.1
    clear P5 R5 K10 HDX;go_wp2_with fail;refine (show Calls _ _ #[_, .string ⟨#[101,109,112,116,121,95,108,97,121,101,114]⟩] _ _ from qaj (L:=dropA X1 emptyK) rfl (qb7 w10 A10 X1.length c10 X1 HV10.out (by omega) HSD.out emptyK)).mono ?_
    rintro e w11 ⟨A11,c11,rfl,K11⟩;have P11:=Qh (P10.out.next K11.out.2.2)
    have R11:=Qh (show Row w11 qh 42 _ from R10.out.below K11.out.2.2 R10.out.lt)
    have HV11:=Qh K11.out.2.1
    clear P10 R10 K11 HV10;generalize dropA X1 emptyK=X2 at*;go_wp2_with fail;refine (qaj (L:=sortA X2) rfl (qco w11 A11 X2.length c11 X2 HV11.out (by omega) HSD2.out)).mono ?_
    rintro e w12 ⟨A12,c12,rfl,K12⟩;have P12:=Qh (P11.out.next K12.out.2.2)
    have R12:=Qh (show Row w12 qh 42 _ from R11.out.below K12.out.2.2 R11.out.lt)
    have HR12:=Qh (show OwnVals w12 (qh+1) (.slice A12 (sortA X2).length c12) (sortA X2)from K12.out.1.mono R11.out.lt)
    clear P11 R11 K12 HV11;generalize hsx:(sortA X2).length=sx at*;have HSX:=Qh hsx
    clear hsx;have c2:w12.cell? ⟨qh,2,none⟩=some (.slice none 0 0):=R12.out.cell (i:=2) rfl
    have f2:w12.frozen? ⟨qh,2,none⟩=false:=R12.out.frozen 2
    have K13:=Qh (show Kept w12 (w12.setCell ⟨qh,2,none⟩ (.slice A12 sx c12)) (·=qh)from (Kept.refl w12 (·=qh)).setCell (a:=⟨qh,2,none⟩) (.inr rfl) _)
    have P13:=Qh (P12.out.kept K13.out (fun i e=> by rw [e];exact hqh))
    have HR13:=Qh (HR12.out.kept K13.out (fun b e eb=> by have:=(HR12.out.block e).1;omega))
    have R13:=Qh (show Row (w12.setCell ⟨qh,2,none⟩ (.slice A12 sx c12)) qh 42 [.string tb, .bool true, .slice A12 sx c12]from R12.out.set 2 _)
    clear P12 R12 HR12 K13;go_upto_region 12 with fail;generalize w12.setCell ⟨qh,2,none⟩ (.slice A12 sx c12)=w13 at*;clear c2 f2;go_wp2_with (first
     | ((with_reducible refine qas ?_ 42 (.tmp 4) ?_ qh 0 [.string tb, .bool true, .slice A12 sx c12] #[.string tb, .bool true, .slice A12 sx c12] ?_ _ ?_ Tryz.underlying42 ?_ ?_ ?_ ?_);rfl;rfl;go_must (rfl;exact qan R13.out;rfl;exact qai;rfl))
     | ((with_reducible refine qaf ?_ 42 (.tmp 2) (.tmp 72) ?_ w.heap.size [.string tb, .bool true, .slice A12 sx c12] ?_ ?_ hz ?_ ?_ ?_ ?_ ?_);rfl;rfl;go_must (rfl;rfl;rfl;exact P13.out.res;exact qai;exact qbq _ _ _ _ _;intro wz Rz Kz Ez)))
    refine bodyPost_ret (v:= .tuple #[.agg #[.string tb, .bool true, .slice A12 sx c12], .bool true]) (qae (fn:=Tryz.f70) (p:=2) (u:=3) rfl _ _ w.heap.size _ #[.string tb, .bool true, .slice A12 sx c12] _ _ rfl Rz.out Tryz.underlying42 rfl qai) rfl ?_
    rw [HX.out];refine ⟨⟨textOf (ofKey L byK),true,⟨A12,c12,sortA X2⟩⟩, ?_, ?_,Qh ⟨?_,qap P13.out.below Kz.out⟩⟩
    ·show Hist.mk _ _ _=Hist.mk _ _ _
     rw [HEX.out,HX2.out]
    ·show _=Ending.returned (.tuple #[.agg #[.string (sb (textOf (ofKey L byK))), .bool true, .slice A12 (sortA X2).length c12], .bool true])
     rw [HSX.out,HBX.out]
    ·show OwnVals wz w.heap.size (.slice A12 (sortA X2).length c12) (sortA X2)
     rw [HSX.out];exact (HR13.out.kept Kz.out (fun b e eb=> by have:=(HR13.out.block e).1;omega)).mono (by omega)
   have cb1:(L[m].kind !=1)=true:=bne_iff_ne.2 e1
   have cb3:(L[m].kind==1)=false:=beq_eq_false_iff_ne.2 e1
   by_cases e2:L[m].kind=2
   case pos=>
    have hx:R=some ⟨textOf (ofKey L byK),decide (kindOf (ofKey L emptyK)=1),srt (dropA (dropA L byK) emptyK)⟩:=by rw [HR.out];exact qct HRT.out hk6 (fun p hp h=> by rw [hgb]at h;cases h;exact b4) (fun p hp h=> by rw [hge]at h;cases h;exact .inr e2)
    have HEX:=Qh (show false=decide (kindOf (ofKey L emptyK)=1)from by rw [hem];exact (decide_eq_false e1).symm)
    rw [e2]at M0 HMC
    have HX:=Qh hx
    clear hx;have HBX:=Qh (show sb L[k].text=sb (textOf (ofKey L byK))from by rw [ql9 hgb (hp:=hk)])
    generalize sb L[k].text=tb at*;generalize hX1:dropA L byK=X1 at*;clear HR HRT HTN HEN;have r0:w3.cell? ⟨qh,0,none⟩=some (.string ⟨#[]⟩):=R3.out.cell (i:=0) rfl
    have f0:w3.frozen? ⟨qh,0,none⟩=false:=R3.out.frozen 0
    go_upto_region 10 with fail;have K4:=Qh (show Kept w3 (w3.setCell ⟨qh,0,none⟩ (.string tb)) (·=qh)from (Kept.refl w3 (·=qh)).setCell (a:=⟨qh,0,none⟩) (.inr rfl) _)
    have P4:=Qh (P3.out.kept K4.out (fun i e=> by rw [e];exact hqh))
    have R4:=Qh (show Row (w3.setCell ⟨qh,0,none⟩ (.string tb)) qh 42 [.string tb, .bool false, .slice none 0 0]from R3.out.set 0 _)
    clear r0 f0 P3 R3 K4;generalize w3.setCell ⟨qh,0,none⟩ (.string tb)=w4 at*;have M4:=HMC.out w4 P4.out.below
    clear HMC M0;have r1:w4.cell? ⟨qh,1,none⟩=some (.bool false):=R4.out.cell (i:=1) rfl
    have f1:w4.frozen? ⟨qh,1,none⟩=false:=R4.out.frozen 1
    go_upto_region 11 with fail;have K5:=Qh (show Kept w4 (w4.setCell ⟨qh,1,none⟩ (.bool false)) (·=qh)from (Kept.refl w4 (·=qh)).setCell (a:=⟨qh,1,none⟩) (.inr rfl) _)
    have P5:=Qh (P4.out.kept K5.out (fun i e=> by rw [e];exact hqh))
    have R5:=Qh (show Row (w4.setCell ⟨qh,1,none⟩ (.bool false)) qh 42 [.string tb, .bool false, .slice none 0 0]from R4.out.set 1 _)
    clear r1 f1 P4 R4 K5;generalize w4.setCell ⟨qh,1,none⟩ (.bool false)=w5 at*;have HDX:=Qh (HDR.out w5 P5.out.below)
    go_wp2_with fail;refine HDX.out.mono ?_
    rintro e w10 ⟨A10,c10,rfl,K10⟩;have P10:=Qh (P5.out.next K10.out.2.2)
    have R10:=Qh (show Row w10 qh 42 _ from R5.out.below K10.out.2.2 R5.out.lt)
    have HV10:=Qh K10.out.2.1
    clear P5 R5 K10 HDX;go_wp2_with fail;refine (show Calls _ _ #[_, .string ⟨#[101,109,112,116,121,95,108,97,121,101,114]⟩] _ _ from qaj (L:=dropA X1 emptyK) rfl (qb7 w10 A10 X1.length c10 X1 HV10.out (by omega) HSD.out emptyK)).mono ?_
    rintro e w11 ⟨A11,c11,rfl,K11⟩;have P11:=Qh (P10.out.next K11.out.2.2)
    have R11:=Qh (show Row w11 qh 42 _ from R10.out.below K11.out.2.2 R10.out.lt)
    have HV11:=Qh K11.out.2.1
    clear P10 R10 K11 HV10;generalize dropA X1 emptyK=X2 at*;go_wp2_with fail;refine (qaj (L:=sortA X2) rfl (qco w11 A11 X2.length c11 X2 HV11.out (by omega) HSD2.out)).mono ?_
    rintro e w12 ⟨A12,c12,rfl,K12⟩;have P12:=Qh (P11.out.next K12.out.2.2)
    have R12:=Qh (show Row w12 qh 42 _ from R11.out.below K12.out.2.2 R11.out.lt)
    have HR12:=Qh (show OwnVals w12 (qh+1) (.slice A12 (sortA X2).length c12) (sortA X2)from K12.out.1.mono R11.out.lt)
    clear P11 R11 K12 HV11;generalize hsx:(sortA X2).length=sx at*;have HSX:=Qh hsx
    clear hsx;have c2:w12.cell? ⟨qh,2,none⟩=some (.slice none 0 0):=R12.out.cell (i:=2) rfl
    have f2:w12.frozen? ⟨qh,2,none⟩=false:=R12.out.frozen 2
    have K13:=Qh (show Kept w12 (w12.setCell ⟨qh,2,none⟩ (.slice A12 sx c12)) (·=qh)from (Kept.refl w12 (·=qh)).setCell (a:=⟨qh,2,none⟩) (.inr rfl) _)
    have P13:=Qh (P12.out.kept K13.out (fun i e=> by rw [e];exact hqh))
    have HR13:=Qh (HR12.out.kept K13.out (fun b e eb=> by have:=(HR12.out.block e).1;omega))
    have R13:=Qh (show Row (w12.setCell ⟨qh,2,none⟩ (.slice A12 sx c12)) qh 42 [.string tb, .bool false, .slice A12 sx c12]from R12.out.set 2 _)
    clear P12 R12 HR12 K13;go_upto_region 12 with fail;generalize w12.setCell ⟨qh,2,none⟩ (.slice A12 sx c12)=w13 at*;clear c2 f2;go_wp2_with (first
     | ((with_reducible refine qas ?_ 42 (.tmp 4) ?_ qh 0 [.string tb, .bool false, .slice A12 sx c12] #[.string tb, .bool false, .slice A12 sx c12] ?_ _ ?_ Tryz.underlying42 ?_ ?_ ?_ ?_);rfl;rfl;go_must (rfl;exact qan R13.out;rfl;exact qai;rfl))
     | ((with_reducible refine qaf ?_ 42 (.tmp 2) (.tmp 72) ?_ w.heap.size [.string tb, .bool false, .slice A12 sx c12] ?_ ?_ hz ?_ ?_ ?_ ?_ ?_);rfl;rfl;go_must (rfl;rfl;rfl;exact P13.out.res;exact qai;exact qbq _ _ _ _ _;intro wz Rz Kz Ez)))
    refine bodyPost_ret (v:= .tuple #[.agg #[.string tb, .bool false, .slice A12 sx c12], .bool true]) (qae (fn:=Tryz.f70) (p:=2) (u:=3) rfl _ _ w.heap.size _ #[.string tb, .bool false, .slice A12 sx c12] _ _ rfl Rz.out Tryz.underlying42 rfl qai) rfl ?_
    rw [HX.out];refine ⟨⟨textOf (ofKey L byK),false,⟨A12,c12,sortA X2⟩⟩, ?_, ?_,Qh ⟨?_,qap P13.out.below Kz.out⟩⟩
    ·show Hist.mk _ _ _=Hist.mk _ _ _
     rw [HEX.out,HX2.out]
    ·show _=Ending.returned (.tuple #[.agg #[.string (sb (textOf (ofKey L byK))), .bool false, .slice A12 (sortA X2).length c12], .bool true])
     rw [HSX.out,HBX.out]
    ·show OwnVals wz w.heap.size (.slice A12 (sortA X2).length c12) (sortA X2)
     rw [HSX.out];exact (HR13.out.kept Kz.out (fun b e eb=> by have:=(HR13.out.block e).1;omega)).mono (by omega)
   have hx:R=none:=by rw [HR.out];exact qp6 hge e1 e2
   have cb2:(L[m].kind !=2)=true:=bne_iff_ne.2 e2
   clear HR HDR HVC HSD HSD2 HRT HTN HEN HX2 HMC hem;generalize L[m]=vm at*;generalize vm.kind=mk at*;generalize L[k]=vk at*;have HX:=Qh hx
   clear hx;go_wp2_with (first
    | ((with_reducible refine qao ?_ 42 #[] ?_ hz.toArray ?_ ?_);rfl;rfl;go_must (refine Eq.trans ?_ qb6;kernel_rfl))
    | ((with_reducible refine qaf ?_ 42 (.tmp 2) (.tmp 47) ?_ w.heap.size hz ?_ ?_ hz ?_ ?_ ?_ ?_ ?_);rfl;rfl;go_must (rfl;rfl;rfl;exact P3.out.res;exact qai;exact qdq;intro w9 R9 K9 E9)))
   refine bodyPost_ret (v:= .tuple #[.agg hz.toArray, .bool false]) (qae (fn:=Tryz.f70) (p:=2) (u:=3) rfl _ _ w.heap.size _ hz.toArray _ _ rfl R9.out Tryz.underlying42 rfl qai) rfl ?_
   rw [HX.out];exact ⟨rfl,Qh (qap P3.out.below K9.out)⟩
end Go.Proofs.YtgmangikcfakgaaGreatDoor
