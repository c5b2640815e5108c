import Derived.Test.YtgmangikcfakgaaGreatDoorPL33
import Derived.Test.YtgmangikcfakgaaGreatDoorPL35
import Derived.Test.YtgmangikcfakgaaGreatDoorPL22
import Derived.Test.YtgmangikcfakgaaGreatDoorPL36
import Derived.Test.YtgmangikcfakgaaGreatDoorPL37
import Derived.Test.YtgmangikcfakgaaGreatDoorPL26
namespace Go.Proofs.YtgmangikcfakgaaGreatDoor
open Go.RowKit Sh Jt Js Jo
set_option maxRecDepth 100000
set_option maxHeartbeats 8000000 in
theorem cf_layers (w:World) (A:Option Addr) (n c:Nat) (Q:List Pe) (hQ:HistsAt w A n c Q) (hn:n≤140737488355328):
  Calls Tryz.prog 17 #[.slice A n c] w fun e w'=> e= .returned (.int .i64 ((layersN (histsOf Q):Nat):Int))∧Hid (Below w.heap.size w w'):=by
 have hlen:=hQ.len
 have HQ:=Lib.hid (fun W (q:Below w.heap.size w W)=> hQ.below q)
 have HNX:=Lib.hid (fun j (h:j < Q.length)=> hists_next Q h)
 obtain ⟨R,hR⟩:∃R,R=layersN (histsOf Q):=⟨_,rfl⟩
 rw [←hR]
 have HR:=Lib.hid hR
 clear hQ hR
 go_enter Tryz.func17,Tryz.ntmps17
 go_wp2_with fail
 go_loopg [3,8] n (fun g v3 v8 wx=> ∃j x:Nat,v3= .int .i64 (x:Int)∧v8= .int .i64 (j:Int)∧j+g=n∧Hid (x=layersN (histsOf (Q.take j)))∧x≤j∧Hid (Below w.heap.size w wx))
 case atStart=> exact ⟨0,0,rfl,rfl,by omega,Lib.hid rfl,Nat.le_refl _,Lib.hid (Below.refl _ _)⟩
 case round=>
  obtain ⟨j,x,rfl,rfl,hjg,HX,hxj,HB⟩:=hrel
  cases gk with
  | zero=>
   obtain rfl:j=n:=by omega
   have hge:¬(j:Int) < (j:Int):=by omega
   have hx:x=R:=by rw [HX.out,HR.out,List.take_of_length_le (by omega)]
   subst hx
   go_wp2_with fail
   go_ret
   exact ⟨rfl,HB⟩
  | succ g=>
   have hj:j < Q.length:=by omega
   obtain ⟨b,o,rfl,hbl,_⟩:=(HQ.out wr HB.out).at_ (by omega)
   have HON:=Lib.hid ((HQ.out wr HB.out).one hj)
   have hnx:=HNX.out j hj
   have hjn:(j:Int) < (n:Int):=by omega
   have hj0:(0:Int)≤(j:Int):=by omega
   have hst:layersN (histsOf (Q.take (j+1)))=x+if Q[j].empty=true then 0 else 1:=by
    rw [hnx,layers_snoc,←HX.out]
    rfl
   have HST:=Lib.hid hst
   clear hst hnx HX
   generalize Q[j]=pe at*
   clear hj
   go_upto_region 5 with (first
    | ((with_reducible refine load_all ?_ 42 (.tmp 10) ?_ b (o+j*3) pe.enc #[.string (sb pe.who), .bool pe.empty,pe.rest.enc] ?_ _ ?_ Tryz.underlying42 ?_ ?_ ?_ ?_);rfl;rfl;go_must (rfl;exact HON.out;rfl;exact cf_sizeH;rfl))
    | ((with_reducible refine store_all ?_ 42 (.tmp 5) (.tmp 11) ?_ wr.heap.size pe.enc ?_ ?_ hz ?_ ?_ ?_ ?_ ?_);rfl;rfl;go_must (rfl;rfl;rfl;exact Row.at_ _ _ _ rfl rfl;exact cf_sizeH;exact hist_one _ _ _ _ _;intro w2 R2 K2 E2)))
   have KB2:=Lib.hid (show Below wr.heap.size wr w2 from (kept_stored K2.out).below (Nat.le_refl _) (fun _ _ h=> h))
   have HB2:=Lib.hid (HB.out.trans (KB2.out.mono HB.out.size))
   have x1:w2.cell? ⟨wr.heap.size,1,none⟩=some (.bool pe.empty):=R2.out.cell (i:=1) rfl
   clear K2 E2 KB2 R2 HB HON
   generalize wr.heap.size=q at*
   cases hb:pe.empty with
   | true=>
    rw [hb]at x1 HST
    have hs2:layersN (histsOf (Q.take (j+1)))=x:=HST.out
    have HS2:=Lib.hid hs2.symm
    clear hs2 HST hb
    go_wp2_with fail
    go_roundg g
    case measure=> omega
    case rel=> exact ⟨j+1,x,rfl,by go_num,by omega,HS2,by omega,HB2⟩
   | false=>
    rw [hb]at x1 HST
    have hs2:layersN (histsOf (Q.take (j+1)))=x+1:=HST.out
    have HS2:=Lib.hid hs2.symm
    clear hs2 HST hb
    go_wp2_with fail
    go_roundg g
    case measure=> omega
    case rel=> exact ⟨j+1,x+1,by go_num,by go_num,by omega,HS2,by omega,HB2⟩
theorem cf_areFew (w:World) (A1:Option Addr) (n1 c1:Nat) (A2:Option Addr) (n2 c2:Nat):
  Calls Tryz.prog 30 #[.slice A1 n1 c1, .slice A2 n2 c2] w fun e w'=> e= .returned (.bool (decide (n1≤60∧n2≤200)))∧Hid (Below w.heap.size w w'):=by
 have HX:=Lib.hid (Below.refl w.heap.size w)
 by_cases h1:n1≤60
 ·by_cases h2:n2≤200
  ·have g1:(n1:Int)≤60:=by omega
   have g2:(n2:Int)≤200:=by omega
   rw [decide_eq_true ⟨h1,h2⟩]
   go_enter Tryz.func30,Tryz.ntmps30
   go_wp2_with fail
   go_ret
   exact ⟨rfl,HX⟩
  ·have g1:(n1:Int)≤60:=by omega
   have g2:¬(n2:Int)≤200:=by omega
   rw [decide_eq_false (fun h=> h2 h.2)]
   go_enter Tryz.func30,Tryz.ntmps30
   go_wp2_with fail
   go_ret
   exact ⟨rfl,HX⟩
 ·have g1:¬(n1:Int)≤60:=by omega
  rw [decide_eq_false (fun h=> h1 h.1)]
  go_enter Tryz.func30,Tryz.ntmps30
  go_wp2_with fail
  go_ret
  exact ⟨rfl,HX⟩
theorem cf_areMatched (w:World) (A1:Option Addr) (n1 c1:Nat) (A2:Option Addr) (n2 c2:Nat) (Q:List Pe) (hQ:HistsAt w A2 n2 c2 Q) (hn:n2≤140737488355328):
  Calls Tryz.prog 31 #[.slice A1 n1 c1, .slice A2 n2 c2] w fun e w'=> e= .returned (.bool (decide (0 < n2→layersN (histsOf Q)=n1)))∧Hid (Below w.heap.size w w'):=by
 have HL:=Lib.hid (cf_layers w A2 n2 c2 Q hQ hn)
 have HX:=Lib.hid (Below.refl w.heap.size w)
 generalize layersN (histsOf Q)=ly at*
 clear hQ
 by_cases h0:n2=0
 ·subst h0
  rw [decide_eq_true (fun h=> absurd h (Nat.lt_irrefl _))]
  clear HL
  go_enter Tryz.func31,Tryz.ntmps31
  go_wp2_with fail
  go_ret
  exact ⟨rfl,HX⟩
 ·have g0:((n2:Int)==0)=false:=beq_eq_false_iff_ne.2 (by omega)
  have hd:decide (0 < n2→ly=n1)=((ly:Int)==(n1:Int)):=by
   by_cases e:ly=n1
   ·rw [decide_eq_true (fun _=> e),e,beq_self_eq_true]
   ·rw [decide_eq_false (fun h=> e (h (by omega))),beq_eq_false_iff_ne.2 (fun h=> e (by omega))]
  rw [hd]
  clear hd
  go_enter Tryz.func31,Tryz.ntmps31
  go_wp2_with fail
  refine HL.out.mono ?_
  rintro e w1 ⟨rfl,K1⟩
  generalize ((ly:Int)==(n1:Int))=bb
  go_wp2_with fail
  go_ret
  exact ⟨rfl,K1⟩
set_option maxHeartbeats 4000000 in
theorem cf_without (w:World) (A:Option Addr) (n c:Nat) (L:List V) (hL:ValsAt w A n c L) (hn:n≤250000) (hs:Short 1000000000 L) (hT:TabOk w) (a b:List UInt8):
  Calls Tryz.prog 32 #[.slice A n c, .string (sb a), .string (sb b)] w fun e w'=> ∃v',e= .returned v'∧Hid (OwnVals w' w.heap.size v' (sortA (dropA (dropA L a) b))∧Below w.heap.size w w'):=by
 have hlen:=hL.len
 have HT:=Lib.hid (fun W (q:Below w.heap.size w W)=> hT.below q)
 have HD:=Lib.hid (own_any (L:=dropA L a) rfl (jo_drop w A n c L hL hn hs hT a))
 have hd1:=drop_few (L:=L) a
 have hd2:=drop_few (L:=dropA L a) b
 have HS1:=Lib.hid (short_dropA hs (key:=a))
 have HS2:=Lib.hid (short_dropA HS1.out (key:=b))
 clear hL hs hT
 generalize hX1:dropA L a=X1 at*
 generalize hX2:dropA X1 b=X2 at*
 have HX2:=Lib.hid hX2
 clear hX1 hX2
 go_enter Tryz.func32,Tryz.ntmps32
 go_wp2_with fail
 refine HD.out.mono ?_
 rintro e w1 ⟨A1,c1,rfl,K1⟩
 have B1:=Lib.hid K1.out.2.2
 have HB:=Lib.hid (own_any (L:=X2) rfl (by have:=jo_drop w1 A1 X1.length c1 X1 K1.out.2.1 (by omega) HS1.out (HT.out w1 B1.out) b;rw [HX2.out]at this;exact this))
 clear K1 HD
 go_wp2_with fail
 refine HB.out.mono ?_
 rintro e w2 ⟨A2,c2,rfl,K2⟩
 have B2:=Lib.hid (B1.out.trans (K2.out.2.2.mono B1.out.size))
 have HV2:=Lib.hid K2.out.2.1
 clear K2 HB B1
 go_wp2_with fail
 refine (js_sortRow w2 A2 X2.length c2 X2 HV2.out (by omega) HS2.out (HT.out w2 B2.out)).mono ?_
 rintro e w3 ⟨v3,rfl,K3⟩
 have HX:=Lib.hid (And.intro (K3.out.1.mono B2.out.size) (B2.out.trans (K3.out.2.mono B2.out.size)))
 clear K3 B2 HV2
 go_wp2_with fail
 go_ret
 exact ⟨_,rfl,HX⟩
set_option maxHeartbeats 8000000 in
theorem cf_isRest (w:World) (A:Option Addr) (n c:Nat) (L:List V) (hL:ValsAt w A n c L) (hn:n≤250000) (hs:Short 1000000000 L) (hT:TabOk w) (a b:List UInt8):
  Calls Tryz.prog 74 #[.slice A n c, .string (sb a), .string (sb b)] w fun e w'=> e= .returned (.bool (plainF L a b))∧Hid (Below w.heap.size w w'):=by
 have HSO:=Lib.hid (own_any (L:=sortA L) rfl (js_sortRow w A n c L hL hn hs hT))
 have HGA:=Lib.hid (fun W (q:Below w.heap.size w W)=> jo_get W A n c L (hL.below q) hn hs (hT.below q) 0 a)
 have HGB:=Lib.hid (fun W (q:Below w.heap.size w W)=> jo_get W A n c L (hL.below q) hn hs (hT.below q) 0 b)
 have HVC:=Lib.hid (fun W (q:Below w.heap.size w W)=> hL.below q)
 have hlen:=hL.len
 have B0:=Lib.hid (Below.refl w.heap.size w)
 have hs5:(sortA L).length≤5000:=by
  unfold sortA
  split
  next h=>
   rw [(srt_srt h).2.2]
   exact right_short h
  next=> exact Nat.zero_le _
 obtain ⟨R,hR⟩:∃R,R=plainF L a b:=⟨_,rfl⟩
 rw [←hR]
 have HR:=Lib.hid hR
 clear hR hL hs hT
 have pl0:plc none= -1:=rfl
 have pls:∀q:Nat,plc (some q)=(q:Int):=fun _=> rfl
 by_cases h0:n=0
 ·subst h0
  have HX:=Lib.hid (show R=false from by
   rw [HR.out]
   refine plain_kind ?_
   rw [List.eq_nil_of_length_eq_zero hlen]
   decide)
  clear HR HSO HGA HGB HVC
  go_enter Tryz.func74,Tryz.ntmps74
  go_wp2_with fail
  go_ret
  rw [HX.out]
  exact ⟨rfl,B0⟩
 have hpos:0 < L.length:=by omega
 have hk0:kindOf L=L[0].kind:=by
  match L,hpos with
  | v::r,_=> rfl
 have hnz:((n:Int)==0)=false:=beq_eq_false_iff_ne.2 (by omega)
 obtain ⟨bb,o,rfl,hbl,_⟩:=(HVC.out w B0.out).at_ (by omega)
 have h00:(0:Int) < (n:Int):=by omega
 have x0:w.cell? ⟨bb,o,none⟩=some (.int .i64 L[0].kind):=by
  have:=((HVC.out w B0.out).cells hpos).1
  rwa [Nat.zero_mul,Nat.add_zero]at this
 by_cases h6:L[0].kind=6
 case neg=>
  have HX:=Lib.hid (show R=false from by rw [HR.out];exact plain_kind (by rw [hk0];exact h6))
  have cb:(L[0].kind !=6)=true:=bne_iff_ne.2 h6
  clear HR HSO HGA HGB HVC h6 hk0
  generalize L[0].kind=y0 at*
  go_enter Tryz.func74,Tryz.ntmps74
  go_wp2_with fail
  go_ret
  rw [HX.out]
  exact ⟨rfl,B0⟩
 rw [h6]at x0
 have hk6:kindOf L=6:=hk0.trans h6
 have HK6:=Lib.hid hk6
 clear h6 hk0 hk6
 go_enter Tryz.func74,Tryz.ntmps74
 go_wp2_with fail
 refine HSO.out.mono ?_
 rintro e w3 ⟨A3,c3,rfl,H3⟩
 have B3:=Lib.hid H3.out.2.2
 have HEQ:=Lib.hid (mt_equal w3 A3 (some ⟨bb,o,none⟩) (sortA L).length c3 n c (sortA L) L H3.out.2.1 (HVC.out w3 B3.out) (by omega) (by omega))
 clear H3 HSO B0 x0
 generalize (sortA L).length=sn at*
 go_wp2_with fail
 refine HEQ.out.mono ?_
 rintro e w4 ⟨rfl,m,rfl⟩
 have B4:=Lib.hid (below_drewN B3.out m)
 clear B3 HEQ
 generalize w3.drewN m=w5 at*
 by_cases hq:sortA L=L
 case neg=>
  have HX:=Lib.hid (show R=false from by rw [HR.out];exact plain_unsorted hq)
  rw [decide_eq_false hq]
  clear HR HGA HGB HVC hq
  go_wp2_with fail
  go_ret
  rw [HX.out]
  exact ⟨rfl,B4⟩
 have HXY:=Lib.hid (show R=(decide (getA L 0 a=none) && decide (getA L 0 b=none))from HR.out.trans (plain_seen hpos HK6.out hq))
 rw [decide_eq_true hq]
 clear HR hq HK6
 go_wp2_with fail
 refine (HGA.out w5 B4.out).mono ?_
 rintro e w6 ⟨rfl,K6⟩
 have B6:=Lib.hid (B4.out.trans (K6.out.mono B4.out.size))
 clear B4 K6 HGA
 cases hga:getA L 0 a with
 | some p=>
  have HX:=Lib.hid (show R=false from by rw [HXY.out,hga];rfl)
  rw [pls]
  have hp0:((p:Int)== -1)=false:=beq_eq_false_iff_ne.2 (by omega)
  clear HXY HGB HVC hga
  go_wp2_with fail
  go_ret
  rw [HX.out]
  exact ⟨rfl,B6⟩
 | none=>
  have HXZ:Hid (R=decide (getA L 0 b=none)):=Lib.hid (by rw [HXY.out,hga];rfl)
  rw [pl0]
  clear HXY hga
  go_wp2_with fail
  refine (HGB.out w6 B6.out).mono ?_
  rintro e w7 ⟨rfl,K7⟩
  have B7:=Lib.hid (B6.out.trans (K7.out.mono B6.out.size))
  clear B6 K7 HGB
  cases hgb:getA L 0 b with
  | some p=>
   have HX:=Lib.hid (show R=false from by rw [HXZ.out,hgb];rfl)
   rw [pls]
   have hp0:((p:Int)== -1)=false:=beq_eq_false_iff_ne.2 (by omega)
   clear HXZ HVC hgb
   go_wp2_with fail
   go_ret
   rw [HX.out]
   exact ⟨rfl,B7⟩
  | none=>
   have HX:=Lib.hid (show R=true from by rw [HXZ.out,hgb];rfl)
   rw [pl0]
   clear HXZ HVC hgb
   go_wp2_with fail
   go_ret
   rw [HX.out]
   exact ⟨rfl,B7⟩
end Go.Proofs.YtgmangikcfakgaaGreatDoor
