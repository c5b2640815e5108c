import Derived.Test.YtgmangikcfakgaaGreatDoorPA28
import Derived.Test.YtgmangikcfakgaaGreatDoorPA30
set_option maxRecDepth 100000
set_option maxHeartbeats 40000000
namespace Go.Proofs.YtgmangikcfakgaaGreatDoor
open Go.RowKit Sh Jt Js Jo
theorem js_rend' (w:World) (A:Option Addr) (n c:Nat) (L:List V) (hL:ValsAt w A n c L) (hn:n≤250000) (hr:rightPF L=true) (a:Nat) (ha:a < n):
  Calls Tryz.prog 69 #[.slice A n c, .int .i64 (a:Int)] w fun e w'=> e= .returned (.int .i64 ((a+rowE L a:Nat):Int))∧Hid (Below w.heap.size w w'):=by
 have hl:=hL.len
 subst hl
 obtain ⟨v,P,x,_,_,_,_,_,_,hw⟩:=qfz hr ha
 exact qlq w A c L hL hn a _ ha hw
theorem qh3 (w:World) (A:Option Addr) (n c:Nat) (L:List V) (hL:ValsAt w A n c L) (hn:n≤250000) (hs:Short 1000000000 L) (a:Int):
  Calls Tryz.prog 67 #[.slice A n c, .int .i64 a] w fun e w'=> e= .returned (.bool (placeB L a))∧Hid (Below w.heap.size w w'):=by
 have hlen:=hL.len
 have HR:=Qh (qhy w A n c L hL (by omega) hs)
 obtain ⟨RV,hRV⟩:∃RV,RV=placeB L a:=⟨_,rfl⟩
 rw [←hRV]
 unfold placeB at hRV
 rw [hlen]at hRV
 clear hL hs hlen
 generalize rightPF L=RR at*
 cases RR with
 | false=>
  have HX:Hid (RV=false):=Qh (by rw [hRV,Bool.and_false])
  clear hRV;go_enter Tryz.func67,Tryz.ntmps67
  go_wp2_with fail;refine HR.out.mono ?_
  rintro e w2 ⟨rfl,HB2⟩;clear HR;go_wp2_with fail;go_ret;exact ⟨by rw [HX.out];rfl,HB2⟩
 | true=>
  rw [Bool.and_true]at hRV
  by_cases h0:0≤a
  ·have d0:decide (0≤a)=true:=decide_eq_true h0
   by_cases h1:a < (n:Int)
   ·have d1:decide (a < (n:Int))=true:=decide_eq_true h1
    have HX:Hid (RV=true):=Qh (by rw [hRV,decide_eq_true ⟨h0,h1⟩])
    clear hRV;go_enter Tryz.func67,Tryz.ntmps67
    go_wp2_with fail;refine HR.out.mono ?_
    rintro e w2 ⟨rfl,HB2⟩;clear HR;go_wp2_with fail;go_ret;exact ⟨by rw [HX.out];rfl,HB2⟩
   ·have d1:decide (a < (n:Int))=false:=decide_eq_false h1
    have HX:Hid (RV=false):=Qh (by rw [hRV,decide_eq_false (fun h=> h1 h.2)])
    clear hRV;go_enter Tryz.func67,Tryz.ntmps67
    go_wp2_with fail;refine HR.out.mono ?_
    rintro e w2 ⟨rfl,HB2⟩;clear HR;go_wp2_with fail;go_ret;exact ⟨by rw [HX.out];rfl,HB2⟩
  ·have d0:decide (0≤a)=false:=decide_eq_false h0
   have HX:Hid (RV=false):=Qh (by rw [hRV,decide_eq_false (fun h=> h0 h.1)])
   clear hRV;go_enter Tryz.func67,Tryz.ntmps67
   go_wp2_with fail;refine HR.out.mono ?_
   rintro e w2 ⟨rfl,HB2⟩;clear HR;go_wp2_with fail;go_ret;exact ⟨by rw [HX.out];rfl,HB2⟩
theorem qwg (w:World) (ad:Addr) (n c:Nat) (L:List V) (hL:ValsAt w (some ad) n c L) (hn:n≤250000) (h0:0 < n) (key:List UInt8):
  Calls Tryz.prog 68 #[.slice (some ad) n c, .string (sb key)] w fun e w'=> ∃v',e= .returned v'∧Hid (OwnVals w' w.heap.size v' (named key L)∧Below w.heap.size w w'):=by
 have HO:=Qh (qgk w)
 have HV:=Qh (hL.below (below_alloc' w (.cells #[] 72)))
 have HB:=Qh (below_alloc' w (.cells #[] 72))
 have hsz:=Qh (show w.heap.size≤(w.alloc (.cells #[] 72)).heap.size from (below_alloc' w _).size)
 have hlen:=hL.len
 have hll:([]++L:List V).length=n:=by rw [List.nil_append,hlen]
 have HLL:=Qh hll
 have HLE:=Qh hlen
 have h0i:(0:Int) < (n:Int):=by omega
 have hsk:=Qh (show sb key=sb key from rfl)
 obtain ⟨K,hK⟩:∃K,sb key=K:=⟨_,rfl⟩
 have HK:=Qh hK
 rw [hK]
 clear hL hK hll hsk hlen
 go_enter Tryz.func68,Tryz.ntmps68
 go_wp2_with (at_builtin;go_must (with_reducible refine qa6 rfl _ _ rfl w.heap.size (.slice (some ⟨w.heap.size,0,none⟩) 0 0) [] rfl HO.out ad n c L rfl HV.out (by simp;omega) hsz.out ?_;intro v4 w4 h1 h2 h3;have hg:=h1.out.got (by rw [HLL.out];exact h0);rw [HLL.out]at hg;obtain ⟨g4,k4,rfl, -⟩:=hg;have HN4:=Qh (show OwnVals w4 w.heap.size (.slice (some ⟨g4,0,none⟩) n k4) L from by have h:=h1.out;rw [List.nil_append]at h;exact h);have HB4:=Qh (HB.out.trans (qak h2.out hsz.out (fun i hi e=> by omega)));clear h1 h2 h3;have f1:=HN4.out.unfrozen 1;obtain ⟨x1,y1⟩:∃x,w4.cell? ⟨g4,1,none⟩=some x:=(by obtain ⟨_,y1,_,_⟩:=HN4.out.at_.1.cells (i:=0) (by rw [HLE.out];exact h0);rw [Nat.zero_mul,Nat.zero_add]at y1;exact ⟨_,y1⟩)))
 go_ret
 have hL0:0 < L.length:=by rw [HLE.out];exact h0
 have hset:=HN4.out.set (i:=0) (j:=1) hL0 (by decide) (x:= .string (sb key)) (v:=⟨L[0].kind,key,L[0].text,L[0].count⟩) rfl
 rw [qmo key hL0,HK.out]at hset
 exact ⟨_,rfl,Qh ⟨hset,HB4.out.trans (HN4.out.setBelow 1 (.string K))⟩⟩
theorem qjo (w:World) (A:Option Addr) (n c:Nat) (L:List V) (hL:ValsAt w A n c L) (hn:n≤250000) (hs:Short 1000000000 L) (a k:Int):
  Calls Tryz.prog 65 #[.slice A n c, .int .i64 a, .int .i64 k] w fun e w'=> e= .returned (.int .i64 (plc (itemA L a k)))∧Hid (Below w.heap.size w w'):=by
 have HP:=Qh (qh3 w A n c L hL hn hs a)
 obtain ⟨RV,hRV⟩:∃RV,RV=plc (itemA L a k):=⟨_,rfl⟩
 rw [←hRV]
 unfold itemA at hRV
 cases hp:placeB L a with
 | false=>
  rw [hp]at HP hRV
  have HX:Hid (RV= -1):=Qh (by rw [hRV,if_neg (fun h=> by cases h.1)];rfl)
  clear hRV hp hL hs;go_enter Tryz.func65,Tryz.ntmps65
  go_wp2_with fail;refine HP.out.mono ?_
  rintro e w2 ⟨rfl,HB2⟩;clear HP;go_wp2_with fail;go_ret;exact ⟨by rw [HX.out];rfl,HB2⟩
 | true=>
  obtain ⟨p,rfl,hpl,hr⟩:=qdz hp
  rw [hp]at HP hRV
  rw [Int.toNat_natCast]at hRV
  have hlen:=hL.len
  obtain ⟨b,o,rfl,_,_⟩:=hL.at_ (by omega)
  have HL:=Qh hL
  have HR:=Qh hr
  obtain ⟨h1,h2,h3⟩:=qbm hpl
  rw [h2]at hRV
  obtain ⟨r1,r2,r3⟩:=qcb hr hpl
  obtain ⟨c0,c1,c2,c3⟩:=hL.cells hpl
  obtain ⟨N,hN⟩:∃N:Nat,L[p].count=(N:Int):=⟨L[p].count.toNat,by omega⟩
  rw [hN]at c3 hRV r2 r3
  have hN9:(N:Int)≤250000:=by omega
  rw [Int.toNat_natCast]at r2
  have HC3:=Qh c3
  have HRS:=Qh r2
  have hpn:(p:Int) < (n:Int):=by omega
  have hn9:(n:Int)≤250000:=by omega
  clear hp hL hs h1 h2 h3 r1 c1 c2 hN c0 c3 hr r2 r3;by_cases hk0:k < 0
  ·have d0:decide (k < 0)=true:=decide_eq_true hk0
   have HX:Hid (RV= -1):=Qh (by rw [hRV,if_neg (fun h=> by omega)];rfl)
   clear hRV;go_enter Tryz.func65,Tryz.ntmps65
   go_wp2_with fail;refine HP.out.mono ?_
   rintro e w2 ⟨rfl,HB2⟩;clear HP HC3;go_wp2_with fail;go_ret;exact ⟨by rw [HX.out];rfl,HB2⟩
  ·have d0:decide (k < 0)=false:=decide_eq_false hk0
   obtain ⟨K,rfl⟩:∃K:Nat,k=(K:Int):=⟨k.toNat,by omega⟩
   rw [Int.toNat_natCast]at hRV
   by_cases hkn:K < N
   ·have hki:¬(N:Int)≤(K:Int):=by omega
    have d1:decide ((N:Int)≤(K:Int))=false:=decide_eq_false hki
    have d2:decide (N≤K)=false:=decide_eq_false (by omega)
    have HX:Hid (RV=((stepF L (p+1) K:Nat):Int)):=Qh (by rw [hRV,if_pos ⟨rfl,by omega,by omega⟩];rfl)
    clear hRV;go_enter Tryz.func65,Tryz.ntmps65
    go_wp2_with fail;refine HP.out.mono ?_
    rintro e w2 ⟨rfl,HB2⟩;have d3:w2.cell? ⟨b,o+p*4+3,none⟩=some (.int .i64 (N:Int)):=(qad HB2.out).cell HC3.out (fun h=> h)
    clear HP HC3;go_wp2_with fail;go_loopg [8,9] K (fun g v7 v28 wx=> ∃q j:Nat,v7= .int .i64 (q:Int)∧v28= .int .i64 (j:Int)∧j+g=K∧q≤n∧Hid (RestF L q (N - j))∧Hid (RV=((stepF L q g:Nat):Int))∧Hid (Below w.heap.size w wx))
    case atStart=> exact ⟨p+1,0,by go_num,rfl,by omega,by omega,HRS,HX,HB2⟩
    case round=>
     clear HX HRS d3 HB2;obtain ⟨q,j,rfl,rfl,hjg,hqn,HRR,HX,HB⟩:=hrel
     cases gk with
     | zero=>
      obtain rfl:j=K:=by omega
      have hge:¬(j:Int) < (j:Int):=by omega
      have HX2:Hid (RV=(q:Int)):=HX
      clear HX;go_wp2_with fail;go_ret;exact ⟨by rw [HX2.out];rfl,HB⟩
     | succ g=>
      have hnj:N - j=(N - (j+1))+1:=by omega
      rw [hnj]at HRR
      obtain ⟨hq1,hq2,hq3,hq4,hq5⟩:=HRR.out.next
      have hjn:(j:Int) < (K:Int):=by omega
      have HX2:Hid (RV=((stepF L (q+rowE L q) g:Nat):Int)):=HX
      have HE:=Qh (js_rend' wr (some ⟨b,o,none⟩) n c L (HL.out.below HB.out) (by omega) HR.out q (by omega))
      have HR2:=Qh hq3
      clear HX HRR hnj hq2 hq3;generalize rowE L q=z at*;go_wp2_with fail;refine HE.out.mono ?_
      rintro e w3 ⟨rfl,HB3⟩;have HB4:=Qh (HB.out.trans (HB3.out.mono HB.out.size))
      clear HE;go_wp2_with fail;go_roundg g
      case measure=> omega
      case rel=> exact ⟨q+z,j+1,rfl,by go_num,by omega,by omega,HR2,HX2,HB4⟩
   ·have hki:(N:Int)≤(K:Int):=by omega
    have d1:decide ((N:Int)≤(K:Int))=true:=decide_eq_true hki
    have d2:decide (N≤K)=true:=decide_eq_true (by omega)
    have HX:Hid (RV= -1):=Qh (by rw [hRV,if_neg (fun h=> by omega)];rfl)
    clear hRV;go_enter Tryz.func65,Tryz.ntmps65
    go_wp2_with fail;refine HP.out.mono ?_
    rintro e w2 ⟨rfl,HB2⟩;have d3:w2.cell? ⟨b,o+p*4+3,none⟩=some (.int .i64 (N:Int)):=(qad HB2.out).cell HC3.out (fun h=> h)
    clear HP HC3;go_wp2_with fail;go_ret;exact ⟨by rw [HX.out];rfl,HB2⟩
theorem qd2 (w:World) (A:Option Addr) (n c:Nat) (L:List V) (hL:ValsAt w A n c L) (hn:n≤250000) (hs:Short 1000000000 L) (a:Int) (key:List UInt8):
  Calls Tryz.prog 36 #[.slice A n c, .int .i64 a, .string (sb key)] w fun e w'=> e= .returned (.int .i64 (plc (getA L a key)))∧Hid (Below w.heap.size w w'):=by
 have HP:=Qh (qh3 w A n c L hL hn hs a)
 obtain ⟨RV,hRV⟩:∃RV,RV=plc (getA L a key):=⟨_,rfl⟩
 rw [←hRV]
 unfold getA at hRV
 cases hp:placeB L a with
 | false=>
  rw [hp]at HP hRV
  have HX:Hid (RV= -1):=Qh (by rw [hRV,if_neg (fun h=> by cases h.1)];rfl)
  clear hRV hp hL hs;go_enter Tryz.func36,Tryz.ntmps36
  go_wp2_with fail;refine HP.out.mono ?_
  rintro e w2 ⟨rfl,HB2⟩;clear HP;go_wp2_with fail;go_ret;exact ⟨by rw [HX.out];rfl,HB2⟩
 | true=>
  obtain ⟨p,rfl,hpl,hr⟩:=qdz hp
  have HPB:=Qh hp
  rw [hp]at HP hRV
  rw [Int.toNat_natCast]at hRV
  have hlen:=hL.len
  obtain ⟨b,o,rfl,_,_⟩:=hL.at_ (by omega)
  have HL:=Qh hL
  obtain ⟨h1,h2,h3⟩:=qbm hpl
  rw [h1,h2]at hRV
  obtain ⟨r1,r2,r3⟩:=qcb hr hpl
  obtain ⟨c0,c1,c2,c3⟩:=hL.cells hpl
  obtain ⟨N,hN⟩:∃N:Nat,L[p].count=(N:Int):=⟨L[p].count.toNat,by omega⟩
  have HCT:=Qh (h2.trans hN)
  rw [hN]at c3 hRV r2 r3
  have hN9:(N:Int)≤250000:=by omega
  rw [Int.toNat_natCast]at hRV r2
  have HC3:=Qh c3
  have HC0:=Qh c0
  have HRS:=Qh r2
  have hpn:(p:Int) < (n:Int):=by omega
  have hn9:(n:Int)≤250000:=by omega
  have HIT:=Qh (fun W (k:Below w.heap.size w W) (i:Nat) (hi:i < N)=> show Calls Tryz.prog 65 #[.slice (some ⟨b,o,none⟩) n c, .int .i64 (p:Int), .int .i64 (i:Int)] W fun e w'=> e= .returned (.int .i64 ((stepF L (p+1) i:Nat):Int))∧Hid (Below W.heap.size W w')from by
   have h:=qjo W (some ⟨b,o,none⟩) n c L (hL.below k) hn hs (p:Int) (i:Int)
   unfold itemA at h;rw [Int.toNat_natCast,Int.toNat_natCast,HCT.out,if_pos ⟨HPB.out,by omega,by omega⟩]at h
   exact h)
  clear hp hL hs h1 h2 h3 r1 c1 c2 hN c0 c3 hr r2 r3;have hq:L[p].kind=L[p].kind:=rfl
  generalize L[p].kind=kd at*;by_cases hk:kd=6
  ·subst hk
   have HX:Hid (RV=plc (findF L key (p+1) N)):=Qh (by rw [hRV,if_pos ⟨rfl,rfl⟩])
   clear hRV hq;go_enter Tryz.func36,Tryz.ntmps36
   go_wp2_with fail;refine HP.out.mono ?_
   rintro e w2 ⟨rfl,HB2⟩;have d0:w2.cell? ⟨b,o+p*4,none⟩=some (.int .i64 6):=(qad HB2.out).cell HC0.out (fun h=> h)
   clear HP HC0;go_wp2_with fail;go_loopg [8] N (fun g v8 wx=> ∃j:Nat,v8= .int .i64 (j:Int)∧j+g=N∧Hid (RestF L (stepF L (p+1) j) g)∧Hid (RV=plc (findF L key (stepF L (p+1) j) g))∧Hid (Below w.heap.size w wx))
   case atStart=> exact ⟨0,rfl,by omega,HRS,HX,HB2⟩
   case round=>
    clear HX HRS d0 HB2;obtain ⟨j,rfl,hjg,HR,HX,HB⟩:=hrel
    have d3:wr.cell? ⟨b,o+p*4+3,none⟩=some (.int .i64 (N:Int)):=(qad HB.out).cell HC3.out (fun h=> h)
    cases gk with
    | zero=>
     obtain rfl:j=N:=by omega
     have hge:¬(j:Int) < (j:Int):=by omega
     have HX2:Hid (RV= -1):=HX
     clear HX;go_wp2_with fail;go_ret;exact ⟨by rw [HX2.out];rfl,HB⟩
    | succ g=>
     obtain ⟨hq1,hq2,hq3,hq4,hq5⟩:=HR.out.next
     have HI:=Qh (HIT.out wr HB.out j (by omega))
     have hss:=qmw L j (p+1)
     rw [←hss]at hq3
     have HSS:=Qh hss
     clear hss;obtain ⟨q,hq⟩:∃q,q=stepF L (p+1) j:=⟨_,rfl⟩
     rw [←hq]at HI HX HR HSS hq1 hq2 hq4 hq5
     clear hq;obtain ⟨x0,x1,x2,x3⟩:=(HL.out.below HB.out).cells hq1
     have HX1:=Qh x1
     have hjn:(j:Int) < (N:Int):=by omega
     have hqi:(q:Int) < (n:Int):=by omega
     have hkd:=(qbm hq1).2.2
     have HU:=Qh (show findF L key q (g+1)=if L[q].key=key then some q else findF L key (q+rowE L q) g from by rw [findF,hkd])
     have HR2:=Qh hq3
     clear hkd hq2 hq3 hq4 hq5 x0 x2 x3 HR x1;by_cases he:L[q].key=key
     ·have HX2:Hid (RV=(q:Int)):=Qh (by rw [HX.out,HU.out,if_pos he];rfl)
      rw [he]at HX1
      clear HX HU he HSS HR2;generalize sb key=K at*;go_wp2_with fail;refine HI.out.mono ?_
      rintro e w3 ⟨rfl,HB3⟩;have x1:=(qad HB3.out).cell HX1.out (fun h=> h)
      have HB4:=Qh (HB.out.trans (HB3.out.mono HB.out.size))
      clear HI HX1 d3;go_wp2_with fail;go_ret;exact ⟨by rw [HX2.out];rfl,HB4⟩
     ·have hb1:((sb L[q].key).toList==(sb key).toList)=false:=by rw [qab,qab];exact beq_eq_false_iff_ne.2 he
      have HX2:Hid (RV=plc (findF L key (stepF L (p+1) (j+1)) g)):=Qh (by rw [HX.out,HU.out,if_neg he,HSS.out])
      clear HX HU he HSS;generalize sb L[q].key=K1 at*;generalize sb key=K at*;go_wp2_with fail;refine HI.out.mono ?_
      rintro e w3 ⟨rfl,HB3⟩;have x1:=(qad HB3.out).cell HX1.out (fun h=> h)
      have HB4:=Qh (HB.out.trans (HB3.out.mono HB.out.size))
      clear HI HX1 d3;go_wp2_with fail;go_roundg g
      case measure=> omega
      case rel=> exact ⟨j+1,by go_num,by omega,HR2,HX2,HB4⟩
  ·have hb6:(kd !=6)=true:=bne_iff_ne.2 hk
   have HX:Hid (RV= -1):=Qh (by rw [hRV,if_neg (fun h=> hk h.2)];rfl)
   clear hRV hq HIT;go_enter Tryz.func36,Tryz.ntmps36
   go_wp2_with fail;refine HP.out.mono ?_
   rintro e w2 ⟨rfl,HB2⟩;have d0:w2.cell? ⟨b,o+p*4,none⟩=some (.int .i64 kd):=(qad HB2.out).cell HC0.out (fun h=> h)
   clear HP HC0 HC3;go_wp2_with fail;go_ret;exact ⟨by rw [HX.out];rfl,HB2⟩
theorem qsm (w:World) (A:Option Addr) (n c:Nat) (L:List V) (hL:ValsAt w A n c L) (hn:n≤250000) (hs:Short 1000000000 L) (a:Int):
  Calls Tryz.prog 35 #[.slice A n c, .int .i64 a] w fun e w'=> ∃v',e= .returned v'∧Hid (OwnVals w' w.heap.size v' (cutA L a)∧Below w.heap.size w w'):=by
 have HP:=Qh (qh3 w A n c L hL hn hs a)
 obtain ⟨RV,hRV⟩:∃RV,RV=cutA L a:=⟨_,rfl⟩
 rw [←hRV]
 unfold cutA at hRV
 cases hp:placeB L a with
 | false=>
  rw [hp]at HP hRV
  have HX:Hid (RV=[]):=Qh (by rw [hRV,if_neg (by decide)])
  clear hRV hp hL hs;go_enter Tryz.func35,Tryz.ntmps35
  go_wp2_with fail;refine HP.out.mono ?_
  rintro e w2 ⟨rfl,HB2⟩;clear HP;go_wp2_with fail;go_ret;exact ⟨_,rfl,Qh ⟨by rw [HX.out];exact OwnVals.nil _ _,HB2.out⟩⟩
 | true=>
  obtain ⟨p,rfl,hpl,hr⟩:=qdz hp
  rw [hp,if_pos rfl]at hRV
  rw [hp]at HP
  rw [Int.toNat_natCast]at hRV
  have hlen:=hL.len
  have hcap:=hL.cap
  obtain ⟨b,o,rfl,_,_⟩:=hL.at_ (by omega)
  obtain ⟨e1,e2,e3⟩:=qdl hr hpl
  have HE:=Qh (fun W (k:Below w.heap.size w W)=> js_rend' W (some ⟨b,o,none⟩) n c L (hL.below k) hn hr p (by omega))
  have HX:=Qh hRV
  have HSUB:=Qh (fun W (k:Below w.heap.size w W)=> (hL.below k).sub (i:=p) (k:=rowE L p) (by omega))
  clear hp hL hs hRV e1 hr;generalize (L.drop p).take (rowE L p)=M at*;generalize rowE L p=z at*;have HNA:=Qh (fun W (k:Below w.heap.size w W)=> qwg W ⟨b,o+p*4,none⟩ z (c - p) M (HSUB.out W k) (by omega) e2 [])
  change Hid (∀W,_→Calls _ _ #[_, .string ⟨#[]⟩] _ _)at HNA
  have hpn:(p:Int) < (n:Int):=by omega
  have hpz:(p:Int)≤(p:Int)+(z:Int):=by omega
  have hpc:(p:Int)+(z:Int)≤(c:Int):=by omega
  have h0p:(0:Int)≤(p:Int):=by omega
  have hpzn:p+z≤c:=by omega
  clear HSUB;go_enter Tryz.func35,Tryz.ntmps35
  go_wp2_with fail;refine HP.out.mono ?_
  rintro e w2 ⟨rfl,HB2⟩;clear HP;go_wp2_with fail;refine (HE.out w2 HB2.out).mono ?_
  rintro e w3 ⟨rfl,HB3⟩;have HB4:=Qh (HB2.out.trans (HB3.out.mono HB2.out.size))
  clear HE HB2 HB3;go_wp2_with fail;refine (HNA.out w3 HB4.out).mono ?_
  rintro e w5 ⟨v5,rfl,H5⟩;clear HNA;go_wp2_with fail;go_ret;exact ⟨_,rfl,Qh ⟨by rw [HX.out];exact H5.out.1.mono HB4.out.size,HB4.out.trans (H5.out.2.mono HB4.out.size)⟩⟩
end Go.Proofs.YtgmangikcfakgaaGreatDoor
