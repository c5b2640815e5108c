import Derived.Test.YtgmangikcfakgaaGreatDoorPA18
import Derived.Test.YtgmangikcfakgaaGreatDoorPA3
import Derived.Lib.SliceRun
import Derived.Lib.AppendZeros
set_option maxRecDepth 100000
set_option maxHeartbeats 40000000
namespace Go.Proofs.YtgmangikcfakgaaGreatDoor
open Go.RowKit Sh Jt Js
namespace Jo
theorem qm6:∀(P:List (List V)) (x:List V),Ends P→endP (P.flatten++x) P.length=some P.flatten.length
 | [],x,_=> by rw [List.length_nil,qb0];rfl
 | p::P,x,h=> by
  have h1:endP (p++(P.flatten++x)) 1=some p.length:=qhk _ _ _ _ (h p List.mem_cons_self)
  rw [List.flatten_cons,List.append_assoc,List.length_cons,Nat.add_comm,qow,h1,Option.bind_some,List.drop_left,qm6 P x h.tail,List.length_append];rfl
def RestF (L:List V) (p m:Nat):Prop:=p≤L.length∧∃k,endP (L.drop p) m=some k
theorem RestF.next {L:List V} {p m:Nat} (h:RestF L p (m+1)):p < L.length∧endN L p=((p+rowE L p:Nat):Int)∧RestF L (p+rowE L p) m∧0 < rowE L p∧p+rowE L p≤L.length:=by
 obtain ⟨h0,k,hk⟩:=h
 obtain ⟨a,b,h1,h2,_⟩:=qhn hk
 have h3:=qbz _ _ _ h1
 rw [List.length_drop]at h3
 have hr:rowE L p=a:=by unfold rowE;rw [h1];rfl
 have hp:p < L.length:=by omega
 refine ⟨hp, ?_,⟨by omega,b,by rw [hr,←List.drop_drop];exact h2⟩,by omega,by omega⟩
 unfold endN
 rw [if_pos hp,h1,hr]
 show (p:Int)+(a:Int)=_
 omega
theorem qcb {L:List V} (h:rightPF L=true) {a:Nat} (ha:a < L.length):0≤L[a].count∧RestF L (a+1) L[a].count.toNat∧L[a].count≤(L.length:Int):=by
 obtain ⟨v,P,x,e,he,hn,_⟩:=qfz h ha
 have e2:=e
 rw [List.drop_eq_getElem_cons ha]at e2
 obtain ⟨hv,e3⟩:=List.cons.inj e2
 rw [hv,←hn]
 have hf:endP (L.drop (a+1)) P.length=some P.flatten.length:=by rw [e3];exact qm6 P x he
 have hle:=qbz _ _ _ hf
 rw [List.length_drop]at hle
 exact ⟨by omega,⟨by omega,P.flatten.length,by rw [Int.toNat_natCast];exact hf⟩,by omega⟩
theorem qdl {L:List V} (h:rightPF L=true) {a:Nat} (ha:a < L.length):endN L a=((a+rowE L a:Nat):Int)∧0 < rowE L a∧a+rowE L a≤L.length:=by
 obtain ⟨v,P,x,e,he,hn,_,hr,hp,_⟩:=qfz h ha
 have hl:=(qbz _ _ _ hp)
 rw [List.length_drop]at hl
 refine ⟨?_,by omega,by omega⟩
 unfold endN
 rw [if_pos ha,hp]
 show (a:Int)+((rowE L a:Nat):Int)=_
 omega
theorem qbm {L:List V} {a:Nat} (h:a < L.length):kindOf (L.drop a)=L[a].kind∧countOf (L.drop a)=L[a].count∧Js.keyOf (L.drop a)=L[a].key:=by
 rw [List.drop_eq_getElem_cons h]
 exact ⟨rfl,rfl,rfl⟩
theorem qdz {L:List V} {a:Int} (h:placeB L a=true):∃n:Nat,a=(n:Int)∧n < L.length∧rightPF L=true:=by
 unfold placeB at h
 rw [Bool.and_eq_true,decide_eq_true_eq]at h
 exact ⟨a.toNat,by omega,by omega,h.2⟩
end Jo
open Jo
theorem qlj (w:World) (A:Option Addr) (n c:Nat) (L:List V) (hL:ValsAt w A n c L) (hn:n≤250000) (hs:Short 1000000000 L) (hT:TabOk w) (a:Int):
  Calls Tryz.prog 56 #[.slice A n c, .int .i64 a] w fun e w'=> e= .returned (.bool (placeB L a))∧Hid (Below w.heap.size w w'):=by
 have hlen:=hL.len
 have HB:=Qh (Below.refl w.heap.size w)
 have HR:=Qh (qc4 w A n c L hL hn hs hT)
 obtain ⟨RV,hRV⟩:∃RV,RV=placeB L a:=⟨_,rfl⟩
 rw [←hRV]
 unfold placeB at hRV
 rw [hlen]at hRV
 clear hL hs hT hlen
 generalize rightPF L=RR at*
 by_cases h0:0≤a
 ·have d0:decide (0≤a)=true:=decide_eq_true h0
  by_cases h1:a < (n:Int)
  ·have d1:decide (a < (n:Int))=true:=decide_eq_true h1
   have HX:Hid (RV=RR):=Qh (by rw [hRV,decide_eq_true ⟨h0,h1⟩,Bool.true_and])
   clear hRV;go_enter Tryz.func56,Tryz.ntmps56
   go_wp2_with fail;refine HR.out.mono ?_
   rintro e w2 ⟨rfl,HB2⟩;clear HR;go_wp2_with fail;go_ret;exact ⟨by rw [HX.out];rfl,HB2⟩
  ·have d1:decide (a < (n:Int))=false:=decide_eq_false h1
   have HX:Hid (RV=false):=Qh (by rw [hRV,decide_eq_false (fun h=> h1 h.2),Bool.false_and])
   clear hRV HR;go_enter Tryz.func56,Tryz.ntmps56
   go_wp2_with fail;go_ret;exact ⟨by rw [HX.out];rfl,HB⟩
 ·have d0:decide (0≤a)=false:=decide_eq_false h0
  have HX:Hid (RV=false):=Qh (by rw [hRV,decide_eq_false (fun h=> h0 h.1),Bool.false_and])
  clear hRV HR;go_enter Tryz.func56,Tryz.ntmps56
  go_wp2_with fail;go_ret;exact ⟨by rw [HX.out];rfl,HB⟩
theorem qcz (w:World) (A:Option Addr) (n c:Nat) (L:List V) (hL:ValsAt w A n c L) (hn:n≤250000) (hs:Short 1000000000 L) (hT:TabOk w) (a:Int) (key:List UInt8):
  Calls Tryz.prog 25 #[.slice A n c, .int .i64 a, .string (sb key)] w fun e w'=> e= .returned (.int .i64 (plc (getA L a key)))∧Hid (Below w.heap.size w w'):=by
 have HP:=Qh (qlj w A n c L hL hn hs hT a)
 obtain ⟨RV,hRV⟩:∃RV,RV=plc (getA L a key):=⟨_,rfl⟩
 rw [←hRV]
 unfold getA at hRV
 cases hp:placeB L a with
 | false=>
  rw [hp]at HP hRV
  have HX:Hid (RV= -1):=Qh (by rw [hRV,if_neg (fun h=> by cases h.1)];rfl)
  clear hRV hp hL hs hT;go_enter Tryz.func25,Tryz.ntmps25
  go_wp2_with fail;refine HP.out.mono ?_
  rintro e w2 ⟨rfl,HB2⟩;clear HP;go_wp2_with fail;go_ret;exact ⟨by rw [HX.out];rfl,HB2⟩
 | true=>
  obtain ⟨p,rfl,hpl,hr⟩:=qdz hp
  rw [hp]at HP hRV
  rw [Int.toNat_natCast]at hRV
  have hlen:=hL.len
  obtain ⟨b,o,rfl,_,_⟩:=hL.at_ (by omega)
  have HL:=Qh hL
  have HT:=Qh hT
  obtain ⟨h1,h2,h3⟩:=qbm hpl
  rw [h1,h2]at hRV
  obtain ⟨r1,r2,r3⟩:=qcb hr hpl
  obtain ⟨c0,c1,c2,c3⟩:=hL.cells hpl
  obtain ⟨N,hN⟩:∃N:Nat,L[p].count=(N:Int):=⟨L[p].count.toNat,by omega⟩
  rw [hN]at c3 hRV r2 r3
  have hN9:(N:Int)≤250000:=by omega
  rw [Int.toNat_natCast]at hRV r2
  have HC3:=Qh c3
  have HC0:=Qh c0
  have HRS:=Qh r2
  have hpn:(p:Int) < (n:Int):=by omega
  have hn9:(n:Int)≤250000:=by omega
  clear hp hL hs hT h1 h2 h3 r1 c1 c2 hN c0 c3 hr r2 r3;have hq:L[p].kind=L[p].kind:=rfl
  generalize L[p].kind=kd at*;by_cases hk:kd=6
  ·subst hk
   have HX:Hid (RV=plc (findF L key (p+1) N)):=Qh (by rw [hRV,if_pos ⟨rfl,rfl⟩])
   clear hRV hq;go_enter Tryz.func25,Tryz.ntmps25
   go_wp2_with fail;refine HP.out.mono ?_
   rintro e w2 ⟨rfl,HB2⟩;have d0:w2.cell? ⟨b,o+p*4,none⟩=some (.int .i64 6):=(qad HB2.out).cell HC0.out (fun h=> h)
   have d3:w2.cell? ⟨b,o+p*4+3,none⟩=some (.int .i64 (N:Int)):=(qad HB2.out).cell HC3.out (fun h=> h)
   clear HP HC0 HC3;go_wp2_with fail;go_loopg [7,27] N (fun g v7 v27 wx=> ∃q j:Nat,v7= .int .i64 (q:Int)∧v27= .int .i64 (j:Int)∧j+g=N∧q≤n∧Hid (RestF L q g)∧Hid (RV=plc (findF L key q g))∧Hid (Below w.heap.size w wx))
   case atStart=> exact ⟨p+1,0,by go_num,rfl,by omega,by omega,HRS,HX,HB2⟩
   case round=>
    clear HX HRS d0 d3 HB2;obtain ⟨q,j,rfl,rfl,hjg,hqn,HR,HX,HB⟩:=hrel
    cases gk with
    | zero=>
     obtain rfl:j=N:=by omega
     have hge:¬(j:Int) < (j:Int):=by omega
     have HX2:Hid (RV= -1):=HX
     clear HX;go_wp2_with fail;go_ret;exact ⟨by rw [HX2.out];rfl,HB⟩
    | succ g=>
     obtain ⟨hq1,hq2,hq3,hq4,hq5⟩:=HR.out.next
     obtain ⟨x0,x1,x2,x3⟩:=(HL.out.below HB.out).cells hq1
     have hjn:(j:Int) < (N:Int):=by omega
     have hqi:(q:Int) < (n:Int):=by omega
     have hkd:=(qbm hq1).2.2
     have HU:=Qh (show findF L key q (g+1)=if L[q].key=key then some q else findF L key (q+rowE L q) g from by rw [findF,hkd])
     by_cases he:L[q].key=key
     ·rw [he]at x1
      have HX2:Hid (RV=(q:Int)):=Qh (by rw [HX.out,HU.out,if_pos he];rfl)
      clear HX HU HR hkd he hq2 hq3 hq4 hq5 x0 x2 x3;generalize sb key=K at*;go_wp2_with fail;go_ret;exact ⟨by rw [HX2.out];rfl,HB⟩
     ·have hb1:((sb L[q].key).toList==(sb key).toList)=false:=by rw [qab,qab];exact beq_eq_false_iff_ne.2 he
      have HX2:Hid (RV=plc (findF L key (q+rowE L q) g)):=Qh (by rw [HX.out,HU.out,if_neg he])
      have HE:=Qh (qfm wr (some ⟨b,o,none⟩) n c L (HL.out.below HB.out) (by omega) q (by omega))
      rw [hq2]at HE
      have HR2:=Qh hq3
      clear HX HU HR hkd he hq2 hq3 x0 x2 x3;generalize sb L[q].key=K1 at*;generalize sb key=K at*;generalize rowE L q=z at*;go_wp2_with fail;refine HE.out.mono ?_
      rintro e w3 ⟨rfl,HB3⟩;have HB4:=Qh (HB.out.trans (HB3.out.mono HB.out.size))
      clear HE x1;go_wp2_with fail;go_roundg g
      case measure=> omega
      case rel=> exact ⟨q+z,j+1,rfl,by go_num,by omega,by omega,HR2,HX2,HB4⟩
  ·have hb6:(kd !=6)=true:=bne_iff_ne.2 hk
   have HX:Hid (RV= -1):=Qh (by rw [hRV,if_neg (fun h=> hk h.2)];rfl)
   clear hRV hq;go_enter Tryz.func25,Tryz.ntmps25
   go_wp2_with fail;refine HP.out.mono ?_
   rintro e w2 ⟨rfl,HB2⟩;have d0:w2.cell? ⟨b,o+p*4,none⟩=some (.int .i64 kd):=(qad HB2.out).cell HC0.out (fun h=> h)
   clear HP HC0 HC3;go_wp2_with fail;go_ret;exact ⟨by rw [HX.out];rfl,HB2⟩
end Go.Proofs.YtgmangikcfakgaaGreatDoor
namespace Go.Proofs.YtgmangikcfakgaaGreatDoor
open Go.RowKit Sh Jt Js Jo
theorem qak {B:Nat} {w w':World} {S:Nat→Prop} (k:Kept w w' S) (hB:B≤w.heap.size) (hS:∀i,i < B→¬S i):Below B w w':=⟨k.os,k.tape,k.output,k.size,fun i hi=> k.block i (Nat.lt_of_lt_of_le hi hB) (hS i hi)⟩
theorem qgk (w:World):OwnVals (w.alloc (.cells #[] 72)) w.heap.size (.slice (some ⟨w.heap.size,0,none⟩) 0 0) []:=World.ownsRow_made w #[] 0 (Nat.le_refl _) (Nat.zero_le _) rfl
theorem OwnVals.setBelow {w:World} {B g n c:Nat} {L:List V} (h:OwnVals w B (.slice (some ⟨g,0,none⟩) n c) L) (j:Nat) (x:Value):Below B w (w.setCell ⟨g,j,none⟩ x):=by
 obtain ⟨hl,⟨e,_⟩ | ⟨g',cap,cur,e,hg,hh,_⟩⟩:=h
 ·cases e
 ·simp only [Value.slice.injEq,Option.some.injEq,Addr.mk.injEq]at e
  obtain ⟨⟨rfl,_⟩,_,_⟩:=e
  exact qak (B:=B) ((Kept.refl w (·=g)).setCell (a:=⟨g,j,none⟩) (.inr rfl) _) (by have:=(Array.getElem?_eq_some_iff.1 hh).1;omega) (fun i hi e=> by omega)
theorem qoo (w:World) (b o n c:Nat) (L:List V) (hL:ValsAt w (some ⟨b,o,none⟩) n c L) (hn:n≤250000):
  Calls Tryz.prog 53 #[.slice (some ⟨b,o,none⟩) n c] w fun e w'=> ∃v',e= .returned v'∧Hid (OwnVals w' w.heap.size v' L∧Below w.heap.size w w'):=by
 have HO:=Qh (qgk w)
 have HV:=Qh (hL.below (below_alloc' w (.cells #[] 72)))
 have HB:=Qh (below_alloc' w (.cells #[] 72))
 have hsz:=Qh (show w.heap.size≤(w.alloc (.cells #[] 72)).heap.size from (below_alloc' w _).size)
 have q22:∀(W:World),(binOp .eql 26 (.slice (some ⟨b,o,none⟩) n c) (.slice none 0 0)).run Tryz.prog W= .ok (.bool false) W:=fun W=> Lib.run_eql_slice_nil W _ _ (some ⟨b,o,none⟩) n c 0 0 Tryz.underlying26
 clear hL
 go_enter Tryz.func53,Tryz.ntmps53
 go_wp2_with (at_builtin;go_must (with_reducible refine qa6 rfl _ _ rfl w.heap.size (.slice (some ⟨w.heap.size,0,none⟩) 0 0) [] rfl HO.out ⟨b,o,none⟩ n c L rfl HV.out (by simp;omega) hsz.out ?_;intro v4 w4 h1 h2 h3))
 go_ret
 exact ⟨_,rfl,Qh ⟨h1.out,HB.out.trans (qak h2.out hsz.out (fun i hi e=> by omega))⟩⟩
theorem qem (w:World) (A:Option Addr) (n c:Nat) (L:List V) (hL:ValsAt w A n c L) (hn:n≤250000) (hs:Short 1000000000 L) (hT:TabOk w):
  Calls Tryz.prog 49 #[.slice A n c] w fun e w'=> e= .returned (if rightPF L=true then .slice A n c else .slice none 0 0)∧Hid (Below w.heap.size w w'):=by
 have HR:=Qh (qc4 w A n c L hL hn hs hT)
 clear hL hs hT
 generalize rightPF L=R at*
 cases R with
 | false=>
  go_enter Tryz.func49,Tryz.ntmps49
  go_wp2_with fail;refine HR.out.mono ?_
  rintro e w2 ⟨rfl,HB2⟩;clear HR;go_wp2_with fail;go_ret;exact ⟨rfl,HB2⟩
 | true=>
  go_enter Tryz.func49,Tryz.ntmps49
  go_wp2_with fail;refine HR.out.mono ?_
  rintro e w2 ⟨rfl,HB2⟩;clear HR;go_wp2_with fail;go_ret;exact ⟨rfl,HB2⟩
theorem qmo (key:List UInt8) {L:List V} (h:0 < L.length):L.set 0 ⟨L[0].kind,key,L[0].text,L[0].count⟩=named key L:=by
 match L,h with
 | v::r,_=> rfl
theorem qmj {L:List V} (h:0 < L.length):kindOf L=L[0].kind:=by
 match L,h with
 | v::r,_=> rfl
theorem qjh (w:World) (A:Option Addr) (n c:Nat) (L:List V) (hL:ValsAt w A n c L) (hn:n≤250000) (hs:Short 1000000000 L) (hT:TabOk w):
  Calls Tryz.prog 52 #[.slice A n c] w fun e w'=> e= .returned (.bool (isO L))∧Hid (Below w.heap.size w w'):=by
 have HR:=Qh (qc4 w A n c L hL hn hs hT)
 obtain ⟨RV,hRV⟩:∃RV,RV=isO L:=⟨_,rfl⟩
 rw [←hRV]
 unfold isO at hRV
 cases hr:rightPF L with
 | false=>
  rw [hr]at HR hRV
  have HX:Hid (RV=false):=Qh hRV
  clear hRV hL hs hT hr;go_enter Tryz.func52,Tryz.ntmps52
  go_wp2_with fail;refine HR.out.mono ?_
  rintro e w2 ⟨rfl,HB2⟩;clear HR;go_wp2_with fail;go_ret;exact ⟨by rw [HX.out];rfl,HB2⟩
 | true=>
  have h0:=(qbo hr).2.1
  rw [hr,Bool.true_and,qmj h0]at hRV
  rw [hr]at HR
  have hlen:=hL.len
  obtain ⟨b,o,rfl,_,_⟩:=hL.at_ (by omega)
  obtain ⟨c0,c1,c2,c3⟩:=hL.cells h0
  rw [Nat.zero_mul,Nat.add_zero]at c0
  have HC0:=Qh c0
  have hn0:(0:Int) < (n:Int):=by omega
  clear hL hs hT hr c0 c1 c2 c3;generalize L[0].kind=kd at*;have hd:decide (kd=6)=(kd==6):=by
   by_cases h:kd=6
   ·subst h;rfl
   ·rw [decide_eq_false h,beq_eq_false_iff_ne.2 h]
  rw [hd]at hRV
  have HX:=Qh hRV
  clear hd hRV hlen;go_enter Tryz.func52,Tryz.ntmps52
  go_wp2_with fail;refine HR.out.mono ?_
  rintro e w2 ⟨rfl,HB2⟩;have d0:w2.cell? ⟨b,o,none⟩=some (.int .i64 kd):=(qad HB2.out).cell HC0.out (fun h=> h)
  clear HR HC0;go_wp2_with fail;go_ret;exact ⟨by rw [HX.out];rfl,HB2⟩
theorem qp0 (w:World) (A:Option Addr) (n c:Nat) (L:List V) (hL:ValsAt w A n c L) (hn:n≤250000) (hs:Short 1000000000 L) (hT:TabOk w) (a:Int):
  Calls Tryz.prog 24 #[.slice A n c, .int .i64 a] w fun e w'=> ∃v',e= .returned v'∧Hid (OwnVals w' w.heap.size v' (cutA L a)∧Below w.heap.size w w'):=by
 have HP:=Qh (qlj w A n c L hL hn hs hT a)
 obtain ⟨RV,hRV⟩:∃RV,RV=cutA L a:=⟨_,rfl⟩
 rw [←hRV]
 unfold cutA at hRV
 cases hp:placeB L a with
 | false=>
  rw [hp]at HP hRV
  have HX:Hid (RV=[]):=Qh (by rw [hRV,if_neg (by decide)])
  clear hRV hp hL hs hT;go_enter Tryz.func24,Tryz.ntmps24
  go_wp2_with fail;refine HP.out.mono ?_
  rintro e w2 ⟨rfl,HB2⟩;clear HP;go_wp2_with fail;go_ret;exact ⟨_,rfl,Qh ⟨by rw [HX.out];exact OwnVals.nil _ _,HB2.out⟩⟩
 | true=>
  obtain ⟨p,rfl,hpl,hr⟩:=qdz hp
  rw [hp,if_pos rfl]at hRV
  rw [hp]at HP
  rw [Int.toNat_natCast]at hRV
  have hlen:=hL.len
  have hcap:=hL.cap
  obtain ⟨b,o,rfl,_,_⟩:=hL.at_ (by omega)
  have HL:=Qh hL
  obtain ⟨e1,e2,e3⟩:=qdl hr hpl
  have HE:=Qh (fun W (k:Below w.heap.size w W)=> qfm W (some ⟨b,o,none⟩) n c L (hL.below k) hn p (by omega))
  rw [e1]at HE
  have HX:=Qh hRV
  have HSUB:=Qh (fun W (k:Below w.heap.size w W)=> (hL.below k).sub (i:=p) (k:=rowE L p) (by omega))
  have hML:((L.drop p).take (rowE L p)).length=rowE L p:=by rw [List.length_take,List.length_drop];omega
  clear hp hL hs hT hRV e1 hr;generalize (L.drop p).take (rowE L p)=M at*;generalize rowE L p=z at*;have hpn:(p:Int) < (n:Int):=by omega
  have hpz:(p:Int)≤(p:Int)+(z:Int):=by omega
  have hpc:(p:Int)+(z:Int)≤(c:Int):=by omega
  have h0p:(0:Int)≤(p:Int):=by omega
  have hpzn:p+z≤c:=by omega
  go_enter Tryz.func24,Tryz.ntmps24
  go_wp2_with fail;refine HP.out.mono ?_
  rintro e w2 ⟨rfl,HB2⟩;clear HP;go_wp2_with fail;refine (HE.out w2 HB2.out).mono ?_
  rintro e w3 ⟨rfl,HB3⟩;have HB4:=Qh (HB2.out.trans (HB3.out.mono HB2.out.size))
  clear HE HB2 HB3;go_wp2_with fail;refine (qoo w3 b (o+p*4) z (c - p) M (HSUB.out w3 HB4.out) (by omega)).mono ?_
  rintro e w5 ⟨v5,rfl,H5⟩;have hM0:0 < M.length:=by omega
  obtain ⟨g5,k5,rfl,hg5,hlt5,hk5⟩:=H5.out.1.got hM0
  have f1:=H5.out.1.unfrozen 1
  obtain ⟨x0,x1,x2,x3⟩:=H5.out.1.at_.1.cells hM0
  rw [Nat.zero_mul,Nat.zero_add]at x1
  have hi:(0:Int) < (M.length:Int):=by omega
  have hset:=H5.out.1.set (i:=0) (j:=1) hM0 (by decide) (x:= .string (sb [])) (v:=⟨M[0].kind,[],M[0].text,M[0].count⟩) rfl
  rw [qmo [] hM0,hML]at hset
  have HF:=Qh (And.intro (show OwnVals (w5.setCell ⟨g5,1,none⟩ (.string (sb []))) w3.heap.size (.slice (some ⟨g5,0,none⟩) z k5) (named [] M)from hset) (H5.out.1.setBelow 1 (.string (sb []))))
  clear hset;have HB5:=Qh (HB4.out.trans (H5.out.2.mono HB4.out.size))
  have hsz:=Qh HB4.out.size
  clear H5 x0 x2 x3 HL HSUB;go_wp2_with fail;go_ret;exact ⟨_,rfl,Qh ⟨by rw [HX.out];exact HF.out.1.mono hsz.out,HB5.out.trans (HF.out.2.mono hsz.out)⟩⟩
namespace Jo
structure Pc where
 at_:Option Addr
 cap:Nat
 row:List V
instance:Inhabited Pc:=⟨⟨none,0,[]⟩⟩
def Pc.enc (p:Pc):Value:= .slice p.at_ p.row.length p.cap
def rowsOf (Q:List Pc):List (List V):=Q.map (·.row)
end Jo
structure SlsAt (w:World) (A:Option Addr) (n c:Nat) (Q:List Pc):Prop where
 len:Q.length=n
 cap:n≤c
 at_:0 < n→∃b o,A=some ⟨b,o,none⟩∧b < w.heap.size∧w.rangeAt b o (Q.map Pc.enc)
 ins:∀p∈Q,ValsAt w p.at_ p.row.length p.cap p.row
theorem SlsAt.below {w w':World} {A:Option Addr} {n c:Nat} {Q:List Pc} (h:SlsAt w A n c Q) (hb:Below w.heap.size w w'):SlsAt w' A n c Q:=
 ⟨h.len,h.cap,fun h0=> by
  obtain ⟨b,o,e,hlt,hr⟩:=h.at_ h0
  exact ⟨b,o,e,Nat.lt_of_lt_of_le hlt hb.size,qbd hr (qad hb) (fun h=> h)⟩,fun p hp=> (h.ins p hp).below hb⟩
theorem SlsAt.cell {w:World} {A:Option Addr} {n c:Nat} {Q:List Pc} (h:SlsAt w A n c Q) {j:Nat} (hj:j < Q.length):∃b o,A=some ⟨b,o,none⟩∧w.cell? ⟨b,o+j,none⟩=some Q[j].enc:=by
 obtain ⟨b,o,e,hlt,hr⟩:=h.at_ (by have:=h.len;omega)
 exact ⟨b,o,e,hr j _ (by rw [List.getElem?_map,List.getElem?_eq_getElem hj];rfl)⟩
theorem SlsAt.new (w:World) (Q:List Pc) (h:∀p∈Q,ValsAt w p.at_ p.row.length p.cap p.row) (C:Array Value) (hC:C=(Q.map Pc.enc).toArray) (n:Nat) (hn:Q.length=n):SlsAt (w.alloc (.cells C 26)) (some ⟨w.heap.size,0,none⟩) n n Q:=by
 subst hC
 have r:=Row.new w 26 (Q.map Pc.enc)
 exact ⟨hn,Nat.le_refl _,fun _=> ⟨_,0,rfl,r.lt,r.range 0 _ (fun j v hj=> by rw [Nat.zero_add];exact hj)⟩,fun p hp=> (h p hp).below (below_alloc' w _)⟩
theorem qml (z:Value) (n k:Nat) (hz:z.cells.size=k):(Builtin.zeroCells z.cells n).size=n*k:=by
 subst hz
 simp [Builtin.zeroCells]
theorem qib (Q:List Pc) {j:Nat} (h:j < Q.length):(rowsOf (Q.take (j+1))).flatten=(rowsOf (Q.take j)).flatten++Q[j].row:=by
 unfold rowsOf
 rw [List.take_succ_eq_append_getElem h,List.map_append,List.flatten_append,List.map_singleton,List.flatten_singleton]
theorem qsx (Q:List Pc) (j:Nat):(rowsOf (Q.take j)).flatten.length≤(rowsOf Q).flatten.length:=by
 conv=> rhs;rw [←List.take_append_drop j Q]
 unfold rowsOf
 rw [List.map_append,List.flatten_append,List.length_append]
 omega
theorem q1r (w:World) (n:Nat) (h0:0 < n) (hn:n≤1000000):
  Calls Tryz.prog 89 #[.slice none 0 0, .int .i64 (n:Int)] w fun e w'=> ∃v',e= .returned v'∧Hid (OwnVals w' w.heap.size v' []∧Below w.heap.size w w'):=by
 obtain ⟨i,hi,hz,hsz,hby⟩:=qc0
 have hr:=fun ty=> Lib.run_append_nil_zeros (P:=Tryz.prog) w 26 3 ty 72 i (.agg #[.int .i64 0, .string ⟨#[]⟩, .string ⟨#[]⟩, .int .i64 0]) .i64 .i64 Tryz.underlying26 Tryz.underlying3 hi hz n h0 (by rw [hsz];decide) (by omega) (by rw [hby];omega)
 have hge:=grownCap_ge w n 0 72
 have hcm:grownCap w n 0 72≤maxLen:=grownCap_le_maxLen w n 0 72 (by unfold maxLen;omega)
 generalize grownCap w n 0 72=cp at*
 have hsize:(Builtin.zeroCells (Value.cells (.agg #[.int .i64 0, .string ⟨#[]⟩, .string ⟨#[]⟩, .int .i64 0])) n++Builtin.zeroCells (Value.cells (.agg #[.int .i64 0, .string ⟨#[]⟩, .string ⟨#[]⟩, .int .i64 0])) (cp - n)).size=cp*4:=by
  rw [Array.size_append,qml _ _ 4 rfl,qml _ _ 4 rfl];omega
 generalize Builtin.zeroCells (Value.cells (.agg #[.int .i64 0, .string ⟨#[]⟩, .string ⟨#[]⟩, .int .i64 0])) n++Builtin.zeroCells (Value.cells (.agg #[.int .i64 0, .string ⟨#[]⟩, .string ⟨#[]⟩, .int .i64 0])) (cp - n)=C at*
 have HO:Hid (OwnVals (w.drew.alloc (.cells C 72)) w.heap.size (.slice (some ⟨w.heap.size,0,none⟩) 0 cp) []):=Qh ⟨rfl, .inr ⟨w.heap.size,cp,C,rfl,Nat.le_refl _,heap_alloc_new w.drew _,Nat.zero_le _,hcm,hsize,rfl⟩⟩
 have HB:Hid (Below w.heap.size w (w.drew.alloc (.cells C 72))):=Qh (qak (((Kept.refl w (fun _=> False)).drewN 1).alloc _) (Nat.le_refl _) (fun _ _ h=> h))
 have hn0:(0:Int) < (n:Int):=by omega
 have hcp0:(0:Int)≤(cp:Int):=by omega
 clear hz hi hsz hby hsize hcm
 go_enter Tryz.func89,Tryz.ntmps89
 go_wp2_with (at_builtin;refine Lib.wpList_append_run _ rfl _ _ _ _ rfl _ _ rfl rfl _ _ (hr _) ?_)
 go_ret
 exact ⟨_,rfl,Qh ⟨HO.out,HB.out⟩⟩
theorem qif (w:World) (A:Option Addr) (n c:Nat) (Q:List Pc) (hQ:SlsAt w A n c Q) (hn:n≤250000) (ha:∀p∈Q,∃ad,p.at_=some ad) (h0:0 < (rowsOf Q).flatten.length) (hl:(rowsOf Q).flatten.length≤1000000):
  Calls Tryz.prog 54 #[.slice A n c] w fun e w'=> ∃v',e= .returned v'∧Hid (OwnVals w' w.heap.size v' (rowsOf Q).flatten∧Below w.heap.size w w'):=by
 have hlen:=hQ.len
 have HQ:=Qh hQ
 have HA:=Qh ha
 have HLE:=Qh (fun j=> Nat.le_trans (qsx Q j) hl)
 have HT:=Qh (fun (h:Q.length≤n)=> show Q.take n=Q from List.take_of_length_le h)
 have HG:=Qh (fun W=> q1r W (rowsOf Q).flatten.length h0 hl)
 have hn9:(n:Int)≤250000:=by omega
 clear hQ ha h0 hl
 go_enter Tryz.func54,Tryz.ntmps54
 go_wp2_with fail
 go_loopg [3,11] n (fun g v3 v11 wx=> ∃j x:Nat,v3= .int .i64 (x:Int)∧v11= .int .i64 (j:Int)∧j+g=n∧Hid (x=(rowsOf (Q.take j)).flatten.length)∧w=wx)
 case atStart=> exact ⟨0,0,rfl,rfl,by omega,Qh rfl,rfl⟩
 case round=>
  obtain ⟨j,x,rfl,rfl,hjg,HX,rfl⟩:=hrel
  have hx9:(x:Int)≤1000000:=by
   have:=HLE.out j
   rw [←HX.out]at this
   omega
  cases gk with
  | zero=>
   obtain rfl:j=n:=by omega
   have hge:¬(j:Int) < (j:Int):=by omega
   have HX2:=HX.out
   rw [HT.out (by omega)]at HX2
   rw [←HX2]at HG
   have HG2:=Qh (HG.out w)
   clear HG HX HX2;go_wp2_with fail;refine HG2.out.mono ?_
   rintro e w2 ⟨v2,rfl,H2⟩;clear HG2;go_wp2_with fail;go_loopg [6,27] j (fun g v6 v27 wx=> ∃k:Nat,v27= .int .i64 (k:Int)∧k+g=j∧Hid (OwnVals wx w.heap.size v6 (rowsOf (Q.take k)).flatten∧Below w.heap.size w wx))
   case atStart=> exact ⟨0,rfl,by omega,H2⟩
   case round=>
    clear H2;obtain ⟨k,rfl,hkg,HH⟩:=hrel
    cases gk with
    | zero=>
     obtain rfl:k=j:=by omega
     have hge:¬(k:Int) < (k:Int):=by omega
     have HT2:=Qh (HT.out (by omega))
     rw [HT2.out]at HH
     go_wp2_with fail;go_ret;exact ⟨_,rfl,HH⟩
    | succ g=>
     have hk:k < Q.length:=by omega
     obtain ⟨b,o,rfl,cc⟩:=(HQ.out.below HH.out.2).cell hk
     obtain ⟨ad,had⟩:=HA.out _ (List.getElem_mem hk)
     have HV:=Qh ((HQ.out.below HH.out.2).ins _ (List.getElem_mem hk))
     have HN:=Qh (qib Q hk)
     have hle:=HLE.out (k+1)
     have hkn:(k:Int) < (j:Int):=by omega
     rw [HN.out,List.length_append]at hle
     have HSZ:=Qh HH.out.2.size
     have HL9:=Qh hle
     clear hle;unfold Pc.enc at cc;generalize Q[k]=p at*;obtain ⟨pa,pc,prow⟩:=p
     dsimp only at*
     subst had;generalize prow.length=pl at*;go_wp2_with (at_builtin;go_must (with_reducible refine qa6 rfl _ _ rfl w.heap.size u6 (rowsOf (Q.take k)).flatten rfl HH.out.1 ad pl pc prow rfl HV.out (by have:=HL9.out;omega) HSZ.out ?_;intro v4 w4 h1 h2 h3))
     rw [←HN.out]at h1
     go_roundg g
     case measure=> omega
     case rel=> exact ⟨k+1,by go_num,by omega,Qh ⟨h1.out,HH.out.2.trans (qak h2.out HSZ.out (fun i hi e=> by omega))⟩⟩
  | succ g=>
   have hj:j < Q.length:=by omega
   obtain ⟨b,o,rfl,cc⟩:=HQ.out.cell hj
   have HN:=Qh (qib Q hj)
   have hle:=HLE.out (j+1)
   have hjn:(j:Int) < (n:Int):=by omega
   have hxe:=HX.out
   rw [HN.out,List.length_append,←hxe]at hle
   have HX2:=Qh (show x+Q[j].row.length=(rowsOf (Q.take (j+1))).flatten.length by rw [HN.out,List.length_append,hxe])
   clear HX HN hxe;unfold Pc.enc at cc;generalize Q[j]=p at*;obtain ⟨pa,pc,prow⟩:=p
   dsimp only at*
   generalize prow.length=pl at*;go_wp2_with fail;go_roundg g
   case measure=> omega
   case rel=> exact ⟨j+1,x+pl,by go_num,by go_num,by omega,HX2,rfl⟩
namespace Jo
def cntF (c:Int):List V→List V
 | []=> []
 | v::r=> ⟨v.kind,v.key,v.text,c⟩::r
def keyAt (p:Nat) (key:List UInt8) (X:List V):List V:=X.take p++named key (X.drop p)
theorem qit (c:Int) {X:List V} (h:0 < X.length):X.set 0 ⟨X[0].kind,X[0].key,X[0].text,c⟩=cntF c X:=by
 match X,h with
 | v::r,_=> rfl
theorem ql5 (key:List UInt8) {X:List V} {p:Nat} (h:p < X.length):X.set p ⟨X[p].kind,key,X[p].text,X[p].count⟩=keyAt p key X:=by
 unfold keyAt
 rw [List.set_eq_take_append_cons_drop,if_pos h,List.drop_eq_getElem_cons h]
 rfl
theorem qge (c:Int) (X:List V):(cntF c X).length=X.length:=by cases X <;> rfl
theorem q02 (c:Int) {l:List V} (h:0 < l.length) (x:List V):cntF c (l++x)=cntF c l++x:=by
 match l,h with
 | v::r,_=> rfl
theorem qm1 (key:List UInt8) {l:List V} (h:0 < l.length) (x:List V):named key (l++x)=named key l++x:=by
 match l,h with
 | v::r,_=> rfl
theorem qzy {l:List V}:cntF (countOf l) l=l:=by cases l <;> rfl
theorem qp8 (d:Int) (l:List V):cntF (countOf l+d) l=bump d l:=by cases l <;> rfl
theorem qez {l:List V} {p:Nat} (h:0 < p):countOf (l.take p)=countOf l:=by
 match l,p,h with
 | [],_,_=> rw [List.take_nil]
 | v::r,p+1,_=> rfl
theorem qxw (c:Int) (key:List UInt8) {L M:List V} {p e:Nat} (hp:0 < p) (hpl:p≤L.length) (hM:0 < M.length):keyAt p key (cntF c (L.take p++(M++L.drop e)))=cntF c (L.take p)++(named key M++L.drop e):=by
 have ht:(L.take p).length=p:=by rw [List.length_take];omega
 have h1:(cntF c (L.take p)).length=p:=by rw [qge,ht]
 rw [q02 c (by omega)]
 unfold keyAt
 rw [List.take_left' h1,List.drop_left' h1,qm1 key hM]
theorem qzf {L:List V} {key:List UInt8} {M:List V} (h:getA L 0 key=none):setF L key M=cntF (countOf L+1) (L.take L.length)++(named key M++L.drop L.length):=by
 unfold setF
 rw [h,List.take_length,List.drop_length,List.append_nil,qp8]
theorem qzk {L:List V} {key:List UInt8} {M:List V} {p:Nat} (h:getA L 0 key=some p) (hp:0 < p):setF L key M=cntF (countOf L) (L.take p)++(named key M++L.drop (p+rowE L p)):=by
 have e:cntF (countOf L) (L.take p)=L.take p:=by
  have:=qzy (l:=L.take p)
  rw [qez hp]at this
  exact this
 unfold setF
 rw [h,e]
theorem qno {L:List V} {key:List UInt8} {p:Nat} (hO:isO L=true) (h:getA L 0 key=some p) (hp:0 < p) (hpl:p≤L.length):dropA L key=cntF (countOf L - 1) (L.take p++L.drop (p+rowE L p)):=by
 have hc:countOf (L.take p++L.drop (p+rowE L p))=countOf L:=by
  have ht:0 < (L.take p).length:=by rw [List.length_take];omega
  match hq:L.take p,ht with
  | v::r,_=>
   have:=qez (l:=L) hp
   rw [hq]at this
   exact this
 unfold dropA
 rw [if_pos hO,h]
 show bump (-1) _=_
 rw [←qp8,hc]
 rfl
theorem qqk:∀(n:Nat) {L:List V} {key:List UInt8} {q p:Nat},findF L key q n=some p→RestF L q n→q≤p∧p < L.length
 | 0,_,_,_,_,h,_=> by cases h
 | n+1,L,key,q,p,h,hr=> by
  obtain ⟨h1,_,h3,_⟩:=hr.next
  rw [findF]at h
  split at h
  ·cases h
   exact ⟨Nat.le_refl _,h1⟩
  ·obtain ⟨i1,i2⟩:=qqk n h h3
   exact ⟨by omega,i2⟩
theorem qlu {L:List V} {key:List UInt8} {p:Nat} (h:getA L 0 key=some p):0 < p∧p < L.length:=by
 unfold getA at h
 split at h
 next hc=>
  obtain ⟨n,e,hn,hr⟩:=qdz hc.1
  obtain rfl:n=0:=by omega
  obtain ⟨h1,h2,_⟩:=qbm hn
  obtain ⟨r1,r2,_⟩:=qcb hr hn
  rw [←h2]at r2
  have:=qqk _ h r2
  omega
 next hc=> cases h
theorem qcf {m:Nat} {L:List V} (h:Short m L) (p:Nat):Short m (L.take p):=fun v hv=> h v (List.mem_of_mem_take hv)
theorem qcc {m:Nat} {L:List V} (h:Short m L) (p:Nat):Short m (L.drop p):=fun v hv=> h v (List.mem_of_mem_drop hv)
theorem qbe {m:Nat} {L M:List V} (h:Short m L) (h2:Short m M):Short m (L++M):=fun v hv=> (List.mem_append.1 hv).elim (h v) (h2 v)
theorem qnq {m:Nat} {L:List V} (h:Short m L) (c:Int):Short m (cntF c L):=by
 match L,h with
 | [],_=> exact fun v hv=> by cases hv
 | v::r,h=>
  intro x hx;rcases List.mem_cons.1 hx with rfl | hx
  ·exact h v List.mem_cons_self
  ·exact h x (List.mem_cons_of_mem _ hx)
theorem qcm {m:Nat} {L:List V} (h:Short m L) {key:List UInt8} (hk:key.length≤m):Short m (named key L):=by
 match L,h with
 | [],_=> exact fun v hv=> by cases hv
 | v::r,h=>
  intro x hx;rcases List.mem_cons.1 hx with rfl | hx
  ·exact ⟨hk,(h v List.mem_cons_self).2⟩
  ·exact h x (List.mem_cons_of_mem _ hx)
end Jo
theorem ValsAt.pre {w:World} {b o n c:Nat} {L:List V} (h:ValsAt w (some ⟨b,o,none⟩) n c L) {p:Nat} (hp:p≤n):ValsAt w (some ⟨b,o,none⟩) (L.take p).length c (L.take p):=by
 have:=h.sub (i:=0) (k:=p) (by omega)
 rw [Nat.zero_mul,Nat.add_zero,List.drop_zero,Nat.sub_zero]at this
 rw [List.length_take,h.len,Nat.min_eq_left hp]
 exact this
theorem ValsAt.post {w:World} {b o n c:Nat} {L:List V} (h:ValsAt w (some ⟨b,o,none⟩) n c L) {e:Nat} (he:e≤n):ValsAt w (some ⟨b,o+e*4,none⟩) (L.drop e).length (c - e) (L.drop e):=by
 have:=h.sub (i:=e) (k:=n - e) (by omega)
 have hl:=h.len
 rw [List.take_of_length_le (by rw [List.length_drop];omega)]at this
 rw [List.length_drop,hl]
 exact this
theorem ValsAt.behind {w:World} {b o n c:Nat} {L:List V} (h:ValsAt w (some ⟨b,o,none⟩) n c L) {e:Nat} (he:e≤n) {AD:Addr} (hAD:(if c=e then some (⟨b,o,none⟩:Addr) else some ⟨b,o+e*4,none⟩)=some AD):ValsAt w (some AD) (L.drop e).length (c - e) (L.drop e):=by
 have hl:=h.len
 have hc:=h.cap
 split at hAD
 next hce=>
  have hd:L.drop e=[]:=List.drop_eq_nil_of_le (by omega)
  rw [hd];exact ValsAt.nil w _ _
 next hce=>
  cases hAD
  exact h.post he
theorem qgg (W:World) (a1 a2 a3:Option Addr) (n1 n2 n3 c1 c2 c3:Nat):(Instr.buildSlice 69 3 #[(0, .slice a1 n1 c1),(1, .slice a2 n2 c2),(2, .slice a3 n3 c3)]).run Tryz.prog W= .ok (.slice (some ⟨W.heap.size,0,none⟩) 3 3) (W.alloc (.cells #[.slice a1 n1 c1, .slice a2 n2 c2, .slice a3 n3 c3] 26)):=by
 obtain ⟨i,hi,hz,hsz,_⟩:=qjm
 refine run_buildSlice (P:=Tryz.prog) W 69 26 3 #[(0, .slice a1 n1 c1),(1, .slice a2 n2 c2),(2, .slice a3 n3 c3)] #[.slice a1 n1 c1, .slice a2 n2 c2, .slice a3 n3 c3] i _ Tryz.underlying69 hi hz (by rw [hsz];decide) (by rw [hsz];decide) ?_
 rw [hsz]
 rw [show Array.range (3*1)=#[0,1,2]from by decide]
 simp [Instr.fill,Value.cells]
theorem qgb (W:World) (a1 a2:Option Addr) (n1 n2 c1 c2:Nat):(Instr.buildSlice 69 2 #[(0, .slice a1 n1 c1),(1, .slice a2 n2 c2)]).run Tryz.prog W= .ok (.slice (some ⟨W.heap.size,0,none⟩) 2 2) (W.alloc (.cells #[.slice a1 n1 c1, .slice a2 n2 c2] 26)):=by
 obtain ⟨i,hi,hz,hsz,_⟩:=qjm
 refine run_buildSlice (P:=Tryz.prog) W 69 26 2 #[(0, .slice a1 n1 c1),(1, .slice a2 n2 c2)] #[.slice a1 n1 c1, .slice a2 n2 c2] i _ Tryz.underlying69 hi hz (by rw [hsz];decide) (by rw [hsz];decide) ?_
 rw [hsz]
 rw [show Array.range (2*1)=#[0,1]from by decide]
 simp [Instr.fill,Value.cells]
theorem qt4 (w:World) (A:Option Addr) (n c:Nat):Calls Tryz.prog 55 #[.slice A n c, .int .i64 (-1)] w fun e w'=> e= .returned (.int .i64 (-1))∧Hid (Below w.heap.size w w'):=by
 have HB:=Qh (Below.refl w.heap.size w)
 go_enter Tryz.func55,Tryz.ntmps55
 go_wp2_with fail
 go_ret
 exact ⟨rfl,HB⟩
theorem qh7 (w:World) (A:Option Addr) (n c:Nat) (L:List V) (hL:ValsAt w A n c L) (hn:n≤40000) (hs:Short 1000000000 L) (hT:TabOk w) (A2:Option Addr) (n2 c2:Nat) (M:List V) (hM:ValsAt w A2 n2 c2 M) (hn2:n2≤40000) (hs2:Short 1000000000 M) (key:List UInt8) (hk:key.length≤1000000000):
  Calls Tryz.prog 75 #[.slice A n c, .string (sb key), .slice A2 n2 c2] w fun e w'=> ∃v',e= .returned v'∧Hid (OwnVals w' w.heap.size v' (setA L key M)∧Below w.heap.size w w'):=by
 have HO:=Qh (qjh w A n c L hL (by omega) hs hT)
 obtain ⟨RV,hRV⟩:∃RV,RV=setA L key M:=⟨_,rfl⟩
 rw [←hRV]
 unfold setA at hRV
 cases hO:isO L with
 | false=>
  rw [hO]at HO hRV
  have HX:Hid (RV=[]):=Qh (by rw [hRV,if_neg (fun h=> by cases h.1)])
  clear hRV hO hL hs hT hM hs2;generalize sb key=K at*;go_enter Tryz.func75,Tryz.ntmps75
  go_wp2_with fail;refine HO.out.mono ?_
  rintro e w2 ⟨rfl,HB2⟩;clear HO;go_wp2_with fail;go_ret;exact ⟨_,rfl,Qh ⟨by rw [HX.out];exact OwnVals.nil _ _,HB2.out⟩⟩
 | true=>
  have HR:=Qh (fun W (k:Below w.heap.size w W)=> qc4 W A2 n2 c2 M (hM.below k) (by omega) hs2 (hT.below k))
  cases hRM:rightPF M with
  | false=>
   rw [hO]at HO
   rw [hRM]at HR hRV
   have HX:Hid (RV=[]):=Qh (by rw [hRV,if_neg (fun h=> by cases h.2)])
   clear hRV hO hL hs hT hM hs2 hRM;generalize sb key=K at*;go_enter Tryz.func75,Tryz.ntmps75
   go_wp2_with fail;refine HO.out.mono ?_
   rintro e w2 ⟨rfl,HB2⟩;clear HO;go_wp2_with fail;refine (HR.out w2 HB2.out).mono ?_
   rintro e w3 ⟨rfl,HB3⟩;have HB4:=Qh (HB2.out.trans (HB3.out.mono HB2.out.size))
   clear HR HB2 HB3;go_wp2_with fail;go_ret;exact ⟨_,rfl,Qh ⟨by rw [HX.out];exact OwnVals.nil _ _,HB4.out⟩⟩
  | true=>
   have hrL:rightPF L=true:=by unfold isO at hO;rw [Bool.and_eq_true]at hO;exact hO.1
   have h0:=(qbo hrL).2.1
   have hM0:=(qbo hRM).2.1
   have hlen:=hL.len
   have hlen2:=hM.len
   have hcap:=hL.cap
   have hcap2:=hM.cap
   obtain ⟨b,o,rfl,_,_⟩:=hL.at_ (by omega)
   obtain ⟨b2,o2,rfl,_,_⟩:=hM.at_ (by omega)
   rw [hO]at HO
   rw [hRM]at HR
   rw [if_pos ⟨hO,hRM⟩]at hRV
   obtain ⟨x0,x1,x2,x3⟩:=hL.cells h0
   rw [Nat.zero_mul,Nat.add_zero]at x3
   have hcnt:L[0].count=countOf L:=by have:=(qbm h0).2.1;rw [List.drop_zero]at this;exact this.symm
   have hcb:0≤L[0].count∧L[0].count≤40000:=by have:=qcb hrL h0;omega
   rw [hcnt]at x3 hcb
   have HC3:=Qh x3
   have HLW:=Qh (fun W (k:Below w.heap.size w W)=> hL.below k)
   have HMW:=Qh (fun W (k:Below w.heap.size w W)=> hM.below k)
   have HG:=Qh (fun W (k:Below w.heap.size w W)=> qcz W (some ⟨b,o,none⟩) n c L (hL.below k) (by omega) hs (hT.below k) 0 key)
   have HE:=Qh (fun W (k:Below w.heap.size w W) a (ha:a≤1000000)=> qfm W (some ⟨b,o,none⟩) n c L (hL.below k) (by omega) a ha)
   have HEN:=Qh (fun W=> qt4 W (some ⟨b,o,none⟩) n c)
   have HTW:=Qh (fun W (k:Below w.heap.size w W)=> hT.below k)
   have HSL:=Qh hs
   have HSM:=Qh hs2
   have HM0:=Qh hM0
   have HRL:=Qh hrL
   have HLN:=Qh hlen
   have HLN2:=Qh hlen2
   have hn0:(0:Int) < (n:Int):=by omega
   have hn00:0 < n:=by omega
   have hn9:(n:Int)≤40000:=by omega
   have hn29:0 < (n2:Int)∧(n2:Int)≤40000:=by omega
   have HK:=Qh hk
   clear hL hM hs hs2 hT hO hRM x0 x1 x2 x3 hcnt hlen hlen2 h0 hM0 hrL hk;obtain ⟨CN,hCN⟩:∃CN,CN=countOf L:=⟨_,rfl⟩
   rw [←hCN]at HC3 hcb
   have HCN:=Qh hCN
   clear hCN;cases hg:getA L 0 key with
   | none=>
    go_enter Tryz.func75,Tryz.ntmps75
    go_wp2_with fail;refine HO.out.mono ?_
    rintro e w2 ⟨rfl,HB2⟩;clear HO;go_wp2_with fail;refine (HR.out w2 HB2.out).mono ?_
    rintro e w3 ⟨rfl,HB3⟩;have HB4:=Qh (HB2.out.trans (HB3.out.mono HB2.out.size))
    clear HR HB2 HB3;have d3:w3.cell? ⟨b,o+3,none⟩=some (.int .i64 CN):=(qad HB4.out).cell HC3.out (fun h=> h)
    have HGB:=Qh (HG.out (w3.drewN 1) (qaa HB4.out 1))
    rw [hg]at HGB
    change Hid (Calls _ _ _ _ fun e w'=> e= .returned (.int .i64 (-1))∧_)at HGB
    have HCB:=Qh (fun W (k:Below (w3.drewN 1).heap.size (w3.drewN 1) W)=> show W.cell? ⟨b,o+3,none⟩=some (.int .i64 CN)∧Below w.heap.size w W from ⟨(qad (HB4.out.trans ((below_undrew' k).mono HB4.out.size))).cell HC3.out (fun h=> h),HB4.out.trans ((below_undrew' k).mono HB4.out.size)⟩)
    generalize hKK:sb key=K at*;go_upto_region 3 with fail;go_region_held3 (fun x=> x.cell? ⟨b,o+3,none⟩=some (.int .i64 CN)∧Below w.heap.size w x) (first | exact ⟨d3,qaa HB4.out 1⟩ | exact HY.out) (first | (go_at_call 25;refine HGB.out.mono ?_;rintro e w4 ⟨rfl,BB⟩;have HY:=Qh (HCB.out w4 BB.out)))
    have HB5:=Qh HY.out.2
    clear HGB HCB HY d3 HB4;go_wp2_with fail;refine (HEN.out w4).mono ?_
    rintro e w5 ⟨rfl,HB6⟩;have HB7:=Qh (HB5.out.trans (HB6.out.mono HB5.out.size))
    clear HB5 HB6 HE HEN;go_upto_region 7 with fail;have hpn:n≤n:=by omega
    obtain ⟨AD,hAD⟩:∃AD:Addr,(if c=n then some (⟨b,o,none⟩:Addr) else some ⟨b,o+n*4,none⟩)=some AD:=by split <;> exact ⟨_,rfl⟩
    have hbs:∀W,(Instr.buildSlice 69 3 #[(0, .slice (some ⟨b,o,none⟩) n c),(1, .slice (some ⟨b2,o2,none⟩) n2 c2),(2, .slice (some AD) 0 (c - n))]).run Tryz.prog W= .ok (.slice (some ⟨W.heap.size,0,none⟩) 3 3) (W.alloc (.cells #[.slice (some ⟨b,o,none⟩) n c, .slice (some ⟨b2,o2,none⟩) n2 c2, .slice (some AD) 0 (c - n)] 26)):=fun W=> qgg W _ _ _ _ _ _ _ _ _
    have l1:(L.take n).length=n:=by rw [List.length_take,HLN.out];omega
    have l3:(L.drop n).length=0:=by have:=HLN.out;rw [List.length_drop];omega
    have HSA:=Qh (show SlsAt ((w5.alloc (.cells #[.slice (some ⟨b,o,none⟩) n c, .slice (some ⟨b2,o2,none⟩) n2 c2, .slice (some AD) 0 (c - n)] 26)).drew) (some ⟨w5.heap.size,0,none⟩) 3 3 [⟨some ⟨b,o,none⟩,c,L.take n⟩,⟨some ⟨b2,o2,none⟩,c2,M⟩,⟨some AD,c - n,L.drop n⟩]from
     (SlsAt.new w5 [⟨some ⟨b,o,none⟩,c,L.take n⟩,⟨some ⟨b2,o2,none⟩,c2,M⟩,⟨some AD,c - n,L.drop n⟩] (fun p hp=> by
      simp only [List.mem_cons,List.not_mem_nil,or_false]at hp
      rcases hp with rfl | rfl | rfl
      ·exact (HLW.out w5 HB7.out).pre hpn
      ·dsimp only
       rw [HLN2.out];exact HMW.out w5 HB7.out
      ·exact (HLW.out w5 HB7.out).behind (by omega) hAD) _ (by rw [List.map_cons,List.map_cons,List.map_cons,List.map_nil];unfold Pc.enc;dsimp only;rw [l1,l3,HLN2.out]) 3 rfl).below (qaa (Below.refl _ _) 1))
    have hrow:(rowsOf [⟨some ⟨b,o,none⟩,c,L.take n⟩,⟨some ⟨b2,o2,none⟩,c2,M⟩,⟨some AD,c - n,L.drop n⟩]).flatten=L.take n++(M++L.drop n):=by
     unfold rowsOf;simp only [List.map_cons,List.map_nil,List.flatten_cons,List.flatten_nil,List.append_nil]
    have hxl:(L.take n++(M++L.drop n)).length=n+(n2+0):=by rw [List.length_append,List.length_append,l1,l3,HLN2.out]
    have HCC:=Qh (qif _ _ 3 3 _ HSA.out (by decide) (fun p hp=> by
      simp only [List.mem_cons,List.not_mem_nil,or_false]at hp
      rcases hp with rfl | rfl | rfl <;> exact ⟨_,rfl⟩) (by rw [hrow,hxl];omega) (by rw [hrow,hxl];omega))
    rw [hrow]at HCC
    have HPUT:=Qh (qxw (CN+1) key (L:=L) (M:=M) (p:=n) (e:=n) (by omega) (by rw [HLN.out];exact hpn) HM0.out)
    have HSX:=Qh (qbe (qcf HSL.out n) (qbe HSM.out (qcc HSL.out n)))
    have HSY:=Qh (show Short 1000000000 (cntF (CN+1) (L.take n)++(named key M++L.drop n))from qbe (qnq (qcf HSL.out n) _) (qbe (qcm HSM.out HK.out) (qcc HSL.out n)))
    have HRS:=Qh (show RV=fineF (cntF (CN+1) (L.take n)++(named key M++L.drop n))from by rw [hRV,qzf hg,←HCN.out,HLN.out])
    clear hRV hg l1 l3 hrow HSA;have HBA:=Qh (show Below w.heap.size w ((w5.alloc (.cells #[.slice (some ⟨b,o,none⟩) n c, .slice (some ⟨b2,o2,none⟩) n2 c2, .slice (some AD) 0 (c - n)] 26)).drew)from qaa (HB7.out.trans ((below_alloc' w5 _).mono HB7.out.size)) 1)
    obtain ⟨Y,hY⟩:∃Y,Y=cntF (CN+1) (L.take n)++(named key M++L.drop n):=⟨_,rfl⟩
    rw [←hY]at HPUT HSY HRS
    have hyl:Y.length=n+(n2+0):=by rw [hY,List.length_append,List.length_append,qbs,qge,List.length_take,List.length_drop,HLN.out,HLN2.out];omega
    clear hY;obtain ⟨X,hX⟩:∃X,X=L.take n++(M++L.drop n):=⟨_,rfl⟩
    rw [←hX]at HPUT HCC HSX hxl
    clear hX HLW HMW HG;obtain ⟨ln,hln⟩:∃ln:Nat,ln=n+(n2+0):=⟨_,rfl⟩
    rw [←hln]at hxl hyl
    have hlp:n < ln∧0 < ln∧ln≤250000:=by omega
    have i1:(n:Int)≤(c:Int):=by omega
    have i2:n≤c:=by omega
    have i3:(0:Int)≤(n:Int):=by omega
    have hlpi:(n:Int) < (ln:Int):=by omega
    have hl0i:(0:Int) < (ln:Int):=by omega
    clear hln;go_region_held3 (fun x=> Below w.heap.size w x) (first | exact qaa HB7.out 1 | exact HBA.out | exact HZ.out.2) (first | (go_at_call 54;refine HCC.out.mono ?_;rintro e w6 ⟨v6,rfl,HW6⟩;have HZ:=Qh (And.intro (HW6.out.1.mono HBA.out.size) (HBA.out.trans (HW6.out.2.mono HBA.out.size)))))
    clear HCC HBA HB7;obtain ⟨g6,k6,rfl,hg6,hlt6,hk6⟩:=HZ.out.1.got (by rw [hxl];omega)
    rw [hxl]at hk6 HZ
    have fz:=fun i=> HZ.out.1.unfrozen i
    have f1:=fz 3
    have f2:=fz (n*4+1)
    have hX0:0 < X.length:=by omega
    have hXp:n < X.length:=by omega
    obtain ⟨_,_,_,y3⟩:=HZ.out.1.at_.1.cells hX0
    obtain ⟨_,y1,_,_⟩:=HZ.out.1.at_.1.cells hXp
    rw [Nat.zero_mul,Nat.zero_add]at y3
    rw [Nat.zero_add]at y1
    have hs1:=HZ.out.1.set (i:=0) (j:=3) hX0 (by decide) (x:= .int .i64 (CN+1)) (v:=⟨X[0].kind,X[0].key,X[0].text,(CN+1)⟩) rfl
    rw [qit _ hX0,Nat.zero_mul,Nat.zero_add]at hs1
    have hXp2:n < (cntF (CN+1) X).length:=by rw [qge];exact hXp
    have hs2:=hs1.set (i:=n) (j:=1) hXp2 (by decide) (x:= .string (sb key)) (v:=⟨(cntF (CN+1) X)[n].kind,key,(cntF (CN+1) X)[n].text,(cntF (CN+1) X)[n].count⟩) rfl
    rw [ql5 key hXp2,HPUT.out]at hs2
    have hb1:=HZ.out.1.setBelow 3 (.int .i64 (CN+1))
    have hb2:=hs1.setBelow (n*4+1) (.string (sb key))
    rw [hKK]at hs2 hb2
    have HF:=Qh (And.intro hs2 (HZ.out.2.trans (hb1.trans hb2)))
    clear hs1 hs2 hb1 hb2 fz HPUT HSX HZ;have HV:=Qh HF.out.1.at_.1
    have HI:=Qh (qem _ _ _ _ _ HV.out (by omega) HSY.out (HTW.out _ HF.out.2))
    clear HV;go_wp2_with fail;refine HI.out.mono ?_
    rintro e w7 ⟨rfl,HB8⟩;clear HI;have HLE:=Qh (HF.out.2.size)
    unfold fineF at HRS;generalize rightPF Y=RY at*;cases RY with
    | true=>
     go_wp2_with fail;go_ret;exact ⟨_,rfl,Qh ⟨by rw [HRS.out];exact HF.out.1.below HB8.out,HF.out.2.trans (HB8.out.mono HLE.out)⟩⟩
    | false=>
     go_wp2_with fail;go_ret;exact ⟨_,rfl,Qh ⟨by rw [HRS.out];exact OwnVals.nil _ _,HF.out.2.trans (HB8.out.mono HLE.out)⟩⟩
   | some p=>
    obtain ⟨hp0,hpl⟩:=qlu hg
    obtain ⟨hen,hz0,hzl⟩:=qdl HRL.out hpl
    rw [HLN.out]at hpl hzl
    have HE2:=Qh (fun W (k:Below w.heap.size w W)=> show Calls _ _ _ _ fun e w'=> e= .returned (.int .i64 ((p+rowE L p:Nat):Int))∧Hid (Below W.heap.size W w')from by have h:=HE.out W k p (by omega);rw [hen]at h;exact h)
    clear hen;obtain ⟨e1,hz⟩:∃e1,e1=p+rowE L p:=⟨_,rfl⟩
    rw [←hz]at HE2 hzl
    have hpe:p < e1:=by omega
    have HZZ:=Qh hz
    clear hz hz0;go_enter Tryz.func75,Tryz.ntmps75
    go_wp2_with fail;refine HO.out.mono ?_
    rintro e w2 ⟨rfl,HB2⟩;clear HO;go_wp2_with fail;refine (HR.out w2 HB2.out).mono ?_
    rintro e w3 ⟨rfl,HB3⟩;have HB4:=Qh (HB2.out.trans (HB3.out.mono HB2.out.size))
    clear HR HB2 HB3;have d3:w3.cell? ⟨b,o+3,none⟩=some (.int .i64 CN):=(qad HB4.out).cell HC3.out (fun h=> h)
    have HGB:=Qh (HG.out (w3.drewN 1) (qaa HB4.out 1))
    rw [hg]at HGB
    change Hid (Calls _ _ _ _ fun e w'=> e= .returned (.int .i64 (p:Int))∧_)at HGB
    have HCB:=Qh (fun W (k:Below (w3.drewN 1).heap.size (w3.drewN 1) W)=> show W.cell? ⟨b,o+3,none⟩=some (.int .i64 CN)∧Below w.heap.size w W from ⟨(qad (HB4.out.trans ((below_undrew' k).mono HB4.out.size))).cell HC3.out (fun h=> h),HB4.out.trans ((below_undrew' k).mono HB4.out.size)⟩)
    generalize hKK:sb key=K at*;go_upto_region 3 with fail;go_region_held3 (fun x=> x.cell? ⟨b,o+3,none⟩=some (.int .i64 CN)∧Below w.heap.size w x) (first | exact ⟨d3,qaa HB4.out 1⟩ | exact HY.out) (first | (go_at_call 25;refine HGB.out.mono ?_;rintro e w4 ⟨rfl,BB⟩;have HY:=Qh (HCB.out w4 BB.out)))
    have HB5:=Qh HY.out.2
    clear HGB HCB HY d3 HB4;go_wp2_with fail;refine (HE2.out w4 HB5.out).mono ?_
    rintro e w5 ⟨rfl,HB6⟩;have HB7:=Qh (HB5.out.trans (HB6.out.mono HB5.out.size))
    clear HB5 HB6 HE HEN;go_upto_region 7 with fail;have hpn:p≤n:=by omega
    obtain ⟨AD,hAD⟩:∃AD:Addr,(if c=e1 then some (⟨b,o,none⟩:Addr) else some ⟨b,o+e1*4,none⟩)=some AD:=by split <;> exact ⟨_,rfl⟩
    have hbs:∀W,(Instr.buildSlice 69 3 #[(0, .slice (some ⟨b,o,none⟩) p c),(1, .slice (some ⟨b2,o2,none⟩) n2 c2),(2, .slice (some AD) (n - e1) (c - e1))]).run Tryz.prog W= .ok (.slice (some ⟨W.heap.size,0,none⟩) 3 3) (W.alloc (.cells #[.slice (some ⟨b,o,none⟩) p c, .slice (some ⟨b2,o2,none⟩) n2 c2, .slice (some AD) (n - e1) (c - e1)] 26)):=fun W=> qgg W _ _ _ _ _ _ _ _ _
    have l1:(L.take p).length=p:=by rw [List.length_take,HLN.out];omega
    have l3:(L.drop e1).length=(n - e1):=by have:=HLN.out;rw [List.length_drop];omega
    have HSA:=Qh (show SlsAt ((w5.alloc (.cells #[.slice (some ⟨b,o,none⟩) p c, .slice (some ⟨b2,o2,none⟩) n2 c2, .slice (some AD) (n - e1) (c - e1)] 26)).drew) (some ⟨w5.heap.size,0,none⟩) 3 3 [⟨some ⟨b,o,none⟩,c,L.take p⟩,⟨some ⟨b2,o2,none⟩,c2,M⟩,⟨some AD,c - e1,L.drop e1⟩]from
     (SlsAt.new w5 [⟨some ⟨b,o,none⟩,c,L.take p⟩,⟨some ⟨b2,o2,none⟩,c2,M⟩,⟨some AD,c - e1,L.drop e1⟩] (fun p hp=> by
      simp only [List.mem_cons,List.not_mem_nil,or_false]at hp
      rcases hp with rfl | rfl | rfl
      ·exact (HLW.out w5 HB7.out).pre hpn
      ·dsimp only
       rw [HLN2.out];exact HMW.out w5 HB7.out
      ·exact (HLW.out w5 HB7.out).behind (by omega) hAD) _ (by rw [List.map_cons,List.map_cons,List.map_cons,List.map_nil];unfold Pc.enc;dsimp only;rw [l1,l3,HLN2.out]) 3 rfl).below (qaa (Below.refl _ _) 1))
    have hrow:(rowsOf [⟨some ⟨b,o,none⟩,c,L.take p⟩,⟨some ⟨b2,o2,none⟩,c2,M⟩,⟨some AD,c - e1,L.drop e1⟩]).flatten=L.take p++(M++L.drop e1):=by
     unfold rowsOf;simp only [List.map_cons,List.map_nil,List.flatten_cons,List.flatten_nil,List.append_nil]
    have hxl:(L.take p++(M++L.drop e1)).length=p+(n2+(n - e1)):=by rw [List.length_append,List.length_append,l1,l3,HLN2.out]
    have HCC:=Qh (qif _ _ 3 3 _ HSA.out (by decide) (fun p hp=> by
      simp only [List.mem_cons,List.not_mem_nil,or_false]at hp
      rcases hp with rfl | rfl | rfl <;> exact ⟨_,rfl⟩) (by rw [hrow,hxl];omega) (by rw [hrow,hxl];omega))
    rw [hrow]at HCC
    have HPUT:=Qh (qxw CN key (L:=L) (M:=M) (p:=p) (e:=e1) (by omega) (by rw [HLN.out];exact hpn) HM0.out)
    have HSX:=Qh (qbe (qcf HSL.out p) (qbe HSM.out (qcc HSL.out e1)))
    have HSY:=Qh (show Short 1000000000 (cntF CN (L.take p)++(named key M++L.drop e1))from qbe (qnq (qcf HSL.out p) _) (qbe (qcm HSM.out HK.out) (qcc HSL.out e1)))
    have HRS:=Qh (show RV=fineF (cntF CN (L.take p)++(named key M++L.drop e1))from by rw [hRV,qzk hg (by omega),←HCN.out,←HZZ.out])
    clear hRV hg l1 l3 hrow HSA;have HBA:=Qh (show Below w.heap.size w ((w5.alloc (.cells #[.slice (some ⟨b,o,none⟩) p c, .slice (some ⟨b2,o2,none⟩) n2 c2, .slice (some AD) (n - e1) (c - e1)] 26)).drew)from qaa (HB7.out.trans ((below_alloc' w5 _).mono HB7.out.size)) 1)
    obtain ⟨Y,hY⟩:∃Y,Y=cntF CN (L.take p)++(named key M++L.drop e1):=⟨_,rfl⟩
    rw [←hY]at HPUT HSY HRS
    have hyl:Y.length=p+(n2+(n - e1)):=by rw [hY,List.length_append,List.length_append,qbs,qge,List.length_take,List.length_drop,HLN.out,HLN2.out];omega
    clear hY;obtain ⟨X,hX⟩:∃X,X=L.take p++(M++L.drop e1):=⟨_,rfl⟩
    rw [←hX]at HPUT HCC HSX hxl
    clear hX HLW HMW HG;obtain ⟨ln,hln⟩:∃ln:Nat,ln=p+(n2+(n - e1)):=⟨_,rfl⟩
    rw [←hln]at hxl hyl
    have hlp:p < ln∧0 < ln∧ln≤250000:=by omega
    have i1:(p:Int)≤(c:Int):=by omega
    have i2:p≤c:=by omega
    have i3:(0:Int)≤(p:Int):=by omega
    have i4:(e1:Int)≤(n:Int):=by omega
    have i5:(0:Int)≤(e1:Int):=by omega
    have i6:(p:Int)≤(n:Int):=by omega
    have hlpi:(p:Int) < (ln:Int):=by omega
    have hl0i:(0:Int) < (ln:Int):=by omega
    clear hln;go_region_held3 (fun x=> Below w.heap.size w x) (first | exact qaa HB7.out 1 | exact HBA.out | exact HZ.out.2) (first | (go_at_call 54;refine HCC.out.mono ?_;rintro e w6 ⟨v6,rfl,HW6⟩;have HZ:=Qh (And.intro (HW6.out.1.mono HBA.out.size) (HBA.out.trans (HW6.out.2.mono HBA.out.size)))))
    clear HCC HBA HB7;obtain ⟨g6,k6,rfl,hg6,hlt6,hk6⟩:=HZ.out.1.got (by rw [hxl];omega)
    rw [hxl]at hk6 HZ
    have fz:=fun i=> HZ.out.1.unfrozen i
    have f1:=fz 3
    have f2:=fz (p*4+1)
    have hX0:0 < X.length:=by omega
    have hXp:p < X.length:=by omega
    obtain ⟨_,_,_,y3⟩:=HZ.out.1.at_.1.cells hX0
    obtain ⟨_,y1,_,_⟩:=HZ.out.1.at_.1.cells hXp
    rw [Nat.zero_mul,Nat.zero_add]at y3
    rw [Nat.zero_add]at y1
    have hs1:=HZ.out.1.set (i:=0) (j:=3) hX0 (by decide) (x:= .int .i64 CN) (v:=⟨X[0].kind,X[0].key,X[0].text,CN⟩) rfl
    rw [qit _ hX0,Nat.zero_mul,Nat.zero_add]at hs1
    have hXp2:p < (cntF CN X).length:=by rw [qge];exact hXp
    have hs2:=hs1.set (i:=p) (j:=1) hXp2 (by decide) (x:= .string (sb key)) (v:=⟨(cntF CN X)[p].kind,key,(cntF CN X)[p].text,(cntF CN X)[p].count⟩) rfl
    rw [ql5 key hXp2,HPUT.out]at hs2
    have hb1:=HZ.out.1.setBelow 3 (.int .i64 CN)
    have hb2:=hs1.setBelow (p*4+1) (.string (sb key))
    rw [hKK]at hs2 hb2
    have HF:=Qh (And.intro hs2 (HZ.out.2.trans (hb1.trans hb2)))
    clear hs1 hs2 hb1 hb2 fz HPUT HSX HZ;have HV:=Qh HF.out.1.at_.1
    have HI:=Qh (qem _ _ _ _ _ HV.out (by omega) HSY.out (HTW.out _ HF.out.2))
    clear HV;go_wp2_with fail;refine HI.out.mono ?_
    rintro e w7 ⟨rfl,HB8⟩;clear HI;have HLE:=Qh (HF.out.2.size)
    unfold fineF at HRS;generalize rightPF Y=RY at*;cases RY with
    | true=>
     go_wp2_with fail;go_ret;exact ⟨_,rfl,Qh ⟨by rw [HRS.out];exact HF.out.1.below HB8.out,HF.out.2.trans (HB8.out.mono HLE.out)⟩⟩
    | false=>
     go_wp2_with fail;go_ret;exact ⟨_,rfl,Qh ⟨by rw [HRS.out];exact OwnVals.nil _ _,HF.out.2.trans (HB8.out.mono HLE.out)⟩⟩
theorem qr8 (w:World) (A:Option Addr) (n c:Nat) (L:List V) (hL:ValsAt w A n c L) (hn:n≤250000) (hs:Short 1000000000 L) (hT:TabOk w) (key:List UInt8):
  Calls Tryz.prog 22 #[.slice A n c, .string (sb key)] w fun e w'=> ∃v',e= .returned v'∧Hid (OwnVals w' w.heap.size v' (dropA L key)∧Below w.heap.size w w'):=by
 have HO:=Qh (qjh w A n c L hL (by omega) hs hT)
 obtain ⟨RV,hRV⟩:∃RV,RV=dropA L key:=⟨_,rfl⟩
 rw [←hRV]
 cases hO:isO L with
 | false=>
  rw [hO]at HO
  have HX:Hid (RV=[]):=Qh (by rw [hRV];unfold dropA;rw [if_neg (fun h=> by rw [hO]at h;cases h)])
  clear hRV hO hL hs hT;generalize sb key=K at*;go_enter Tryz.func22,Tryz.ntmps22
  go_wp2_with fail;refine HO.out.mono ?_
  rintro e w2 ⟨rfl,HB2⟩;clear HO;go_wp2_with fail;go_ret;exact ⟨_,rfl,Qh ⟨by rw [HX.out];exact OwnVals.nil _ _,HB2.out⟩⟩
 | true=>
  have hrL:rightPF L=true:=by unfold isO at hO;rw [Bool.and_eq_true]at hO;exact hO.1
  have h0:=(qbo hrL).2.1
  have hlen:=hL.len
  have hcap:=hL.cap
  obtain ⟨b,o,rfl,_,_⟩:=hL.at_ (by omega)
  rw [hO]at HO
  have hn00:0 < n:=by omega
  have hn9:(n:Int)≤250000:=by omega
  have HLW:=Qh (fun W (k:Below w.heap.size w W)=> hL.below k)
  have HG:=Qh (fun W (k:Below w.heap.size w W)=> qcz W (some ⟨b,o,none⟩) n c L (hL.below k) (by omega) hs (hT.below k) 0 key)
  cases hg:getA L 0 key with
  | none=>
   rw [hg]at HG
   change Hid (∀W,_→Calls _ _ _ _ fun e w'=> e= .returned (.int .i64 (-1))∧_)at HG
   have HX:Hid (RV=L):=Qh (by rw [hRV];unfold dropA;rw [if_pos hO,hg])
   have HCL:=Qh (fun W (k:Below w.heap.size w W)=> qoo W b o n c L (hL.below k) hn)
   clear hRV hO hL hs hT hg hrL h0 hlen;generalize sb key=K at*;go_enter Tryz.func22,Tryz.ntmps22
   go_wp2_with fail;refine HO.out.mono ?_
   rintro e w2 ⟨rfl,HB2⟩;clear HO;go_wp2_with fail;refine (HG.out w2 HB2.out).mono ?_
   rintro e w3 ⟨rfl,HB3⟩;have HB4:=Qh (HB2.out.trans (HB3.out.mono HB2.out.size))
   clear HG HB2 HB3;go_wp2_with fail;refine (HCL.out w3 HB4.out).mono ?_
   rintro e w4 ⟨v4,rfl,H4⟩;clear HCL;go_wp2_with fail;go_ret;exact ⟨_,rfl,Qh ⟨by rw [HX.out];exact H4.out.1.mono HB4.out.size,HB4.out.trans (H4.out.2.mono HB4.out.size)⟩⟩
  | some p=>
   rw [hg]at HG
   change Hid (∀W,_→Calls _ _ _ _ fun e w'=> e= .returned (.int .i64 (p:Int))∧_)at HG
   obtain ⟨hp0,hpl⟩:=qlu hg
   obtain ⟨hen,hz0,hzl⟩:=qdl hrL hpl
   have HX0:=Qh (hRV.trans (qno hO hg hp0 (Nat.le_of_lt hpl)))
   have HE:=Qh (fun W (k:Below w.heap.size w W)=> show Calls _ _ _ _ fun e w'=> e= .returned (.int .i64 ((p+rowE L p:Nat):Int))∧Hid (Below W.heap.size W w')from by have h:=qfm W (some ⟨b,o,none⟩) n c L (hL.below k) (by omega) p (by omega);rw [hen]at h;exact h)
   rw [hlen]at hpl hzl
   have hcb:0≤countOf L∧countOf L≤250000:=by
    have h1:=qcb hrL h0
    have h2:=(qbm h0).2.1
    rw [List.drop_zero]at h2
    rw [h2];omega
   clear hen;obtain ⟨e1,hz⟩:∃e1,e1=p+rowE L p:=⟨_,rfl⟩
   rw [←hz]at HE hzl HX0
   have hpe:p < e1:=by omega
   clear hz hz0;obtain ⟨AD,hAD⟩:∃AD:Addr,(if c=e1 then some (⟨b,o,none⟩:Addr) else some ⟨b,o+e1*4,none⟩)=some AD:=by split <;> exact ⟨_,rfl⟩
   have hbs:∀W,(Instr.buildSlice 69 2 #[(0, .slice (some ⟨b,o,none⟩) p c),(1, .slice (some AD) (n - e1) (c - e1))]).run Tryz.prog W= .ok (.slice (some ⟨W.heap.size,0,none⟩) 2 2) (W.alloc (.cells #[.slice (some ⟨b,o,none⟩) p c, .slice (some AD) (n - e1) (c - e1)] 26)):=fun W=> qgb W _ _ _ _ _ _
   have l1:(L.take p).length=p:=by rw [List.length_take,hlen];omega
   have l3:(L.drop e1).length=(n - e1):=by rw [List.length_drop];omega
   have hrow:(rowsOf [⟨some ⟨b,o,none⟩,c,L.take p⟩,⟨some AD,c - e1,L.drop e1⟩]).flatten=L.take p++L.drop e1:=by
    unfold rowsOf;simp only [List.map_cons,List.map_nil,List.flatten_cons,List.flatten_nil,List.append_nil]
   have hxl:(L.take p++L.drop e1).length=p+(n - e1):=by rw [List.length_append,l1,l3]
   have HCC:=Qh (fun W (k:Below w.heap.size w W)=> show Calls Tryz.prog 54 #[.slice (some ⟨W.heap.size,0,none⟩) 2 2] (W.alloc (.cells #[.slice (some ⟨b,o,none⟩) p c, .slice (some AD) (n - e1) (c - e1)] 26)) fun e w'=> ∃v',e= .returned v'∧Hid (OwnVals w' W.heap.size v' (L.take p++L.drop e1)∧Below W.heap.size W w')from by
    have hsa:SlsAt (W.alloc (.cells #[.slice (some ⟨b,o,none⟩) p c, .slice (some AD) (n - e1) (c - e1)] 26)) (some ⟨W.heap.size,0,none⟩) 2 2 [⟨some ⟨b,o,none⟩,c,L.take p⟩,⟨some AD,c - e1,L.drop e1⟩]:=
     SlsAt.new W [⟨some ⟨b,o,none⟩,c,L.take p⟩,⟨some AD,c - e1,L.drop e1⟩] (fun q hq=> by
      simp only [List.mem_cons,List.not_mem_nil,or_false]at hq
      rcases hq with rfl | rfl
      ·exact (hL.below k).pre (by omega)
      ·exact (hL.below k).behind (by omega) hAD) _ (by rw [List.map_cons,List.map_cons,List.map_nil];unfold Pc.enc;dsimp only;rw [l1,l3]) 2 rfl
    have h:=qif _ _ 2 2 _ hsa (by decide) (fun q hq=> by
     simp only [List.mem_cons,List.not_mem_nil,or_false]at hq
     rcases hq with rfl | rfl <;> exact ⟨_,rfl⟩) (by rw [hrow,hxl];omega) (by rw [hrow,hxl];omega)
    rw [hrow]at h
    have hsz:=(below_alloc' W (.cells #[.slice (some ⟨b,o,none⟩) p c, .slice (some AD) (n - e1) (c - e1)] 26)).size
    refine h.mono ?_
    rintro e w' ⟨v',rfl,H⟩;exact ⟨v',rfl,Qh ⟨H.out.1.mono hsz,(below_alloc' W _).trans (H.out.2.mono hsz)⟩⟩)
   have HBA:=Qh (fun W (k:Below w.heap.size w W)=> show Below w.heap.size w (W.alloc (.cells #[.slice (some ⟨b,o,none⟩) p c, .slice (some AD) (n - e1) (c - e1)] 26))from k.trans ((below_alloc' W _).mono k.size))
   have HXL:=Qh hxl
   have HX0L:=Qh (show countOf (L.take p++L.drop e1)=countOf L from by
    have h2:=qez (l:=L) hp0
    match hq:L.take p,l1 with
    | v::r,_=>
     rw [hq]at h2
     exact h2
    | [],h=> exact absurd h.symm (by show ¬p=0;omega))
   have i1:(p:Int)≤(c:Int):=by omega
   have i2:p≤c:=by omega
   have i3:(0:Int)≤(p:Int):=by omega
   have i4:(e1:Int)≤(n:Int):=by omega
   have i5:(0:Int)≤(e1:Int):=by omega
   have i6:(p:Int)≤(n:Int):=by omega
   clear hL hs hT hO hg hrL h0 hlen hRV l1 l3 hrow hxl HLW;obtain ⟨X,hX⟩:∃X,X=L.take p++L.drop e1:=⟨_,rfl⟩
   rw [←hX]at HCC HXL HX0 HX0L
   clear hX;generalize countOf L=CN at*;obtain ⟨ln,hln⟩:∃ln:Nat,ln=p+(n - e1):=⟨_,rfl⟩
   rw [←hln]at HXL
   have hlp:0 < ln∧ln≤250000:=by omega
   have hl0i:(0:Int) < (ln:Int):=by omega
   have hl00:0 < ln:=by omega
   clear hln;generalize sb key=K at*;go_enter Tryz.func22,Tryz.ntmps22
   go_wp2_with fail;refine HO.out.mono ?_
   rintro e w2 ⟨rfl,HB2⟩;clear HO;go_wp2_with fail;refine (HG.out w2 HB2.out).mono ?_
   rintro e w3 ⟨rfl,HB3⟩;have HB4:=Qh (HB2.out.trans (HB3.out.mono HB2.out.size))
   clear HG HB2 HB3;go_upto_region 6 with fail;go_region_held3 (fun x=> Below w.heap.size w x) (first | exact qaa HB4.out 1 | exact HB7.out | exact HBA.out _ HB7.out | exact HZ.out.2) (first | (go_at_call 55;refine (HE.out _ (qaa HB4.out 1)).mono ?_;rintro e w5 ⟨rfl,HB6⟩;have HB7:=Qh ((qaa HB4.out 1).trans (HB6.out.mono (qaa HB4.out 1).size))) | (go_at_call 54;refine (HCC.out _ HB7.out).mono ?_;rintro e w6 ⟨v6,rfl,HW6⟩;have HZ:=Qh (And.intro (HW6.out.1.mono HB7.out.size) (HB7.out.trans (HW6.out.2.mono HB7.out.size)))))
   clear HCC HBA HE HB4;have hX0:0 < X.length:=by rw [HXL.out];exact hl00
   obtain ⟨g6,k6,rfl,hg6,hlt6,hk6⟩:=HZ.out.1.got hX0
   rw [HXL.out]at hk6
   have f1:=HZ.out.1.unfrozen 3
   obtain ⟨_,_,_,y3⟩:=HZ.out.1.at_.1.cells hX0
   have hc0:X[0].count=CN:=by
    have h2:=(qbm hX0).2.1
    rw [List.drop_zero]at h2
    rw [←h2];exact HX0L.out
   rw [Nat.zero_mul,Nat.zero_add,hc0]at y3
   have hs1:=HZ.out.1.set (i:=0) (j:=3) hX0 (by decide) (x:= .int .i64 (CN - 1)) (v:=⟨X[0].kind,X[0].key,X[0].text,CN - 1⟩) rfl
   rw [qit _ hX0,Nat.zero_mul,Nat.zero_add]at hs1
   have HF:=Qh (And.intro hs1 (HZ.out.2.trans (HZ.out.1.setBelow 3 (.int .i64 (CN - 1)))))
   have hxl:=HXL.out
   clear hs1 hc0 HX0L HZ;go_wp2_with fail;go_ret;exact ⟨_,rfl,Qh ⟨by rw [HX0.out];exact HF.out.1,HF.out.2⟩⟩
end Go.Proofs.YtgmangikcfakgaaGreatDoor
