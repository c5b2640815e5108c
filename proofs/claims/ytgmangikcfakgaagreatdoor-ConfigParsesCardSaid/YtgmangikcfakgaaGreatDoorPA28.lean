import Derived.Test.YtgmangikcfakgaaGreatDoorPA20
import Derived.Test.YtgmangikcfakgaaGreatDoorPA27
set_option maxRecDepth 100000
set_option maxHeartbeats 40000000
namespace Go.Proofs.YtgmangikcfakgaaGreatDoor
open Go.RowKit Sh Jt Js Jo
def strL (ks:List (List UInt8)):List Value:=ks.map fun k=> Value.string (sb k)
theorem qo7 (ks:List (List UInt8)):(strL ks).length=ks.length:=List.length_map _
theorem qx6 (ks:List (List UInt8)):∀v∈strL ks,v.oneCell'=true:=by
 intro v hv
 obtain ⟨k,_,rfl⟩:=List.mem_map.1 hv
 rfl
def OwnStrs (w:World) (B:Nat) (v:Value) (ks:List (List UInt8)):Prop:=w.ownsRow B 9 1 v ks.length (strL ks)
theorem OwnStrs.nil (w:World) (B:Nat):OwnStrs w B (.slice none 0 0) []:=⟨rfl, .inl ⟨rfl,rfl⟩⟩
theorem OwnStrs.below {w w':World} {B:Nat} {v:Value} {ks:List (List UInt8)} (h:OwnStrs w B v ks) (hb:Below w.heap.size w w'):OwnStrs w' B v ks:=by
 obtain ⟨hl,h1 | ⟨g,cap,cur,rfl,hg,hh,hn,hc,hs,ht⟩⟩:=h
 ·exact ⟨hl, .inl h1⟩
 ·exact ⟨hl, .inr ⟨g,cap,cur,rfl,hg,(hb.block g (Array.getElem?_eq_some_iff.1 hh).1).trans hh,hn,hc,hs,ht⟩⟩
theorem OwnStrs.mono {w:World} {B B':Nat} {v:Value} {ks:List (List UInt8)} (h:OwnStrs w B v ks) (hB:B'≤B):OwnStrs w B' v ks:=by
 obtain ⟨hl,h1 | ⟨g,cap,cur,rfl,hg,rest⟩⟩:=h
 ·exact ⟨hl, .inl h1⟩
 ·exact ⟨hl, .inr ⟨g,cap,cur,rfl,Nat.le_trans hB hg,rest⟩⟩
theorem OwnStrs.strs {w:World} {B:Nat} {v:Value} {ks:List (List UInt8)} (h:OwnStrs w B v ks):∃(A:Option Addr) (c:Nat),v= .slice A ks.length c∧StrsAt w A ks.length c ks:=by
 obtain ⟨hl,⟨rfl,h0⟩ | ⟨g,cap,cur,rfl,hg,hh,hn,hc,hs,ht⟩⟩:=h
 ·have:ks=[]:=List.eq_nil_of_length_eq_zero h0
  subst this;exact ⟨none,0,rfl,rfl,Nat.le_refl _,fun h=> absurd h (by decide)⟩
 ·have hlt:=(Array.getElem?_eq_some_iff.1 hh).1
  refine ⟨some ⟨g,0,none⟩,cap,rfl,rfl,hn,fun _=> ⟨g,0,rfl,hlt,fun j u hj=> ?_⟩⟩
  have hjl:=(List.getElem?_eq_some_iff.1 hj).1
  rw [List.length_map]at hjl
  have ht2:List.take (ks.length*1) cur.toList=ks.map fun k=> Value.string (sb k):=ht
  rw [cell_of_row _ _ _ _ _ _ hh,Nat.zero_add,←hj,←ht2,List.getElem?_take,if_pos (by omega)];simp
theorem qck {w:World} {ops:Array Oper} {rest:List Oper} {o:Oper} {a:Act} {Q:Exit→Act→World→Prop} (hg:o.guard=none) (s x:Operand)
  (ho:o.op= .call {callee:= .builtin .append,args:=#[s,x],argTypes:=#[53,53]}) (B:Nat) (v:Value) (ks:List (List UInt8)) (hs:a.eval s=v) (hown:OwnStrs w B v ks)
  (ad:Addr) (n c:Nat) (ms:List (List UInt8)) (hx:a.eval x= .slice (some ad) n c) (hsrc:StrsAt w (some ad) n c ms) (hb:ks.length+n≤1000000000000) (hB:B≤w.heap.size)
  (h:∀v' w',Hid (OwnStrs w' B v' (ks++ms))→Hid (Kept w w' (fun k=> B≤k∧v.ownBlock=some k))→wpList Tryz.prog ops Q rest (a.put o.dst v') w'):wpList Tryz.prog ops Q (o::rest) a w:=by
 obtain ⟨i,hi,hz,hsz,hby⟩:=qgz
 have hlen:=hsrc.len
 have hnews:∀j u,(strL ms)[j]? =some u→w.cell? (ad.add j)=some u:=by
  intro j u hj;have hjl:=(List.getElem?_eq_some_iff.1 hj).1
  rw [qo7]at hjl
  obtain ⟨b,off,e,_,hr⟩:=hsrc.at_ (by omega)
  simp only [Option.some.injEq]at e
  subst e;rw [Addr.add_mid];exact hr j u hj
 obtain ⟨v',w',hr,h2,h3,h4,h5⟩:=run_append_own_at (P:=Tryz.prog) w B 53 o.type 9 i (.string ⟨#[]⟩) 1 16 Tryz.underlying53 hi hz hsz hby rfl (by decide) v ks.length (strL ks) hown ad n c (strL ms)
  (by rw [qo7,hlen,Nat.mul_one]) hnews (qx6 ms) (by unfold maxLen;omega) (by omega) hB
 refine qa5 (by simp [Region.wanted,hg]) fun K hK=> ?_
 unfold Oper.wp execOp
 simp only [ho,resolve,invoke,builtin,Sem.run_bind,Sem.run_pure,Result.andThen_ok,List.map_toArray,List.map_cons,List.map_nil,hs,hx,hr]
 refine hK _ _ (h v' w' ?_ ?_)
 ·show w'.ownsRow B _ 1 v' (ks++ms).length (strL (ks++ms))
  rw [List.length_append,hlen,show strL (ks++ms)=strL ks++strL ms from List.map_append];exact h2
 ·refine ⟨h3.os,h3.tape,h3.output,h3.size,fun k hk hn=> h3.block k hk (fun e=> hn ?_)⟩
  obtain ⟨_,⟨rfl,_⟩ | ⟨g,cap,cur,rfl,hg,_⟩⟩:=hown
  ·cases e
  ·have e':g=k:=by simpa [Value.ownBlock] using e.symm
   subst e'
   exact ⟨hg,rfl⟩
theorem qcx (W:World) (a:ByteArray):(Instr.buildSlice 53 1 #[(0, .string a)]).run Tryz.prog W= .ok (.slice (some ⟨W.heap.size,0,none⟩) 1 1) (W.alloc (.cells #[.string a] 9)):=by
 obtain ⟨i,hi,hz,hsz,_⟩:=qgz
 refine run_buildSlice (P:=Tryz.prog) W 53 9 1 #[(0, .string a)] #[.string a] i _ Tryz.underlying53 hi hz (by rw [hsz];decide) (by rw [hsz];decide) ?_
 rw [hsz]
 rw [show Array.range (1*1)=#[0]from by decide]
 simp [Instr.fill,Value.cells]
theorem StrsAt.new1 (w:World) (a:List UInt8):StrsAt (w.alloc (.cells #[.string (sb a)] 9)) (some ⟨w.heap.size,0,none⟩) 1 1 [a]:=by
 have r:=Row.new w 9 [.string (sb a)]
 exact ⟨rfl,Nat.le_refl _,fun _=> ⟨_,0,rfl,r.lt,r.range 0 _ (fun j v hj=> by rw [Nat.zero_add];exact hj)⟩⟩
namespace Jo
def rightZ (m:Nat) (o:Bool) (L:List V) (a:Nat):Int:=match rightR m o (L.drop a)with
 | some k=> ((a+k:Nat):Int)
 | none=> -1
def kidsZ (R:List V→Option Nat) (o:Bool) (n:Nat) (names:List (List UInt8)) (L:List V) (q:Nat):Int:=match kidsR R o n names (L.drop q)with
 | some k=> ((q+k:Nat):Int)
 | none=> -1
theorem qum {R:List V→Option Nat} {o:Bool} {n:Nat} {names:List (List UInt8)} {L:List V} {q:Nat} (h:L.length≤q):kidsZ R o (n+1) names L q= -1:=by
 unfold kidsZ
 rw [List.drop_eq_nil_of_le h]
 rfl
theorem qrs {R:List V→Option Nat} {n:Nat} {names:List (List UInt8)} {L:List V} {q:Nat} (h:q < L.length) (hm:L[q].key∈names):kidsZ R true (n+1) names L q= -1:=by
 unfold kidsZ
 rw [List.drop_eq_getElem_cons h,kidsR,if_pos ⟨rfl,hm⟩]
theorem qgu {R:List V→Option Nat} {o:Bool} {n:Nat} {names:List (List UInt8)} {L:List V} {q:Nat} (h:q < L.length) (hm:¬(o=true∧L[q].key∈names)) (hr:R (L.drop q)=none):kidsZ R o (n+1) names L q= -1:=by
 unfold kidsZ
 rw [List.drop_eq_getElem_cons h]at hr ⊢
 rw [kidsR,if_neg hm,hr]
 rfl
theorem qg0 {R:List V→Option Nat} {o:Bool} {n k:Nat} {names:List (List UInt8)} {L:List V} {q:Nat} (h:q < L.length) (hm:¬(o=true∧L[q].key∈names)) (hr:R (L.drop q)=some k):kidsZ R o (n+1) names L q=kidsZ R o n (L[q].key::names) L (q+k):=by
 unfold kidsZ
 rw [←List.drop_drop]
 rw [List.drop_eq_getElem_cons h]at hr ⊢
 rw [kidsR,if_neg hm,hr,Option.bind_some]
 cases kidsR R o n (L[q].key::names) (List.drop k (L[q]::List.drop (q+1) L))with
 | none=> rfl
 | some j=>
  show ((q+(j+k):Nat):Int)=((q+k+j:Nat):Int)
  congr 1
  omega
theorem qrp {m:Nat} {o:Bool} {L:List V} {a:Nat} (h:L.length≤a):rightZ m o L a= -1:=by
 unfold rightZ
 rw [List.drop_eq_nil_of_le h]
 cases m <;> rfl
theorem qxs {m:Nat} {o:Bool} {L:List V} {a:Nat} (h:a < L.length) (ho:ownB L[a] o=false):rightZ (m+1) o L a= -1:=by
 unfold rightZ
 rw [List.drop_eq_getElem_cons h,rightR,if_neg (by rw [ho];decide)]
theorem qrl {m:Nat} {o:Bool} {L:List V} {a:Nat} (h:a < L.length) (ho:ownB L[a] o=true):rightZ (m+1) o L a=kidsZ (rightR m (isObj L[a])) (isObj L[a]) L[a].count.toNat [] L (a+1):=by
 unfold rightZ kidsZ
 rw [List.drop_eq_getElem_cons h,rightR,if_pos ho]
 cases kidsR (rightR m (isObj L[a])) (isObj L[a]) L[a].count.toNat [] (List.drop (a+1) L)with
 | none=> rfl
 | some k=>
  show ((a+(k+1):Nat):Int)=((a+1+k:Nat):Int)
  congr 1
  omega
theorem qhq {m d:Nat} {o:Bool} {l:List V} {k:Nat} (hd:d+m=50) (h:rightR m o l=some k):0 < k∧k≤l.length:=by
 obtain ⟨v,l1,t1,x,rfl,rfl,_⟩:=qjk m d o l k hd h
 rw [List.length_cons,List.length_append]
 omega
theorem qwv {v:V} {o:Bool} (h:ownB v o=true):0≤v.count:=qh4 ((qh0 v o).1 h)
end Jo
theorem qv3:∀(m:Nat) (w:World) (A:Option Addr) (n c:Nat) (L:List V),ValsAt w A n c L→n≤5000→Short 1000000000 L→∀(a d:Nat) (o:Bool),d+m=50→a≤250000→
  Calls Tryz.prog 106 #[.slice A n c, .int .i64 (a:Int), .int .i64 (d:Int), .bool o] w fun e w'=> e= .returned (.int .i64 (rightZ m o L a))∧Hid (Below w.heap.size w w'):=by
 intro m
 induction m with
 | zero=>
  intro w A n c L hL hn hs a d o hd ha;have HB:=Qh (Below.refl w.heap.size w)
  have hr:rightZ 0 o L a= -1:=rfl
  rw [hr];have hdd:(d:Int)=50:=by omega
  rw [hdd];have hlen:=hL.len
  by_cases h:n≤a
  ·have h1:(n:Int)≤(a:Int):=by omega
   have h2:decide ((n:Int)≤(a:Int))=true:=decide_eq_true h1
   have h3:decide (n≤a)=true:=decide_eq_true h
   clear hL hs;go_enter Tryz.func106,Tryz.ntmps106
   go_wp2_with fail;go_ret;exact ⟨rfl,HB⟩
  ·have h1:¬(n:Int)≤(a:Int):=by omega
   have h2:decide ((n:Int)≤(a:Int))=false:=decide_eq_false h1
   have h3:decide (n≤a)=false:=decide_eq_false h
   clear hL hs;go_enter Tryz.func106,Tryz.ntmps106
   go_wp2_with fail;go_ret;exact ⟨rfl,HB⟩
 | succ m ih=>
  intro w A n c L hL hn hs a d o hd ha;have HB:=Qh (Below.refl w.heap.size w)
  have hlen:=hL.len
  by_cases h:n≤a
  ·have h1:(n:Int)≤(a:Int):=by omega
   have h2:decide ((n:Int)≤(a:Int))=true:=decide_eq_true h1
   have h3:decide (n≤a)=true:=decide_eq_true h
   rw [qrp (by omega)];clear hL hs ih;go_enter Tryz.func106,Tryz.ntmps106
   go_wp2_with fail;go_ret;exact ⟨rfl,HB⟩
  ·have h1:¬(n:Int)≤(a:Int):=by omega
   have h2:decide ((n:Int)≤(a:Int))=false:=decide_eq_false h1
   have h3:decide (n≤a)=false:=decide_eq_false h
   have hal:a < L.length:=by omega
   have g1:¬(50:Int)≤(d:Int):=by omega
   have g2:decide ((50:Int)≤(d:Int))=false:=decide_eq_false g1
   have hai:(a:Int) < (n:Int):=by omega
   have hn9:(n:Int)≤5000:=by omega
   have hdi:(d:Int)≤50:=by omega
   obtain ⟨b,off,rfl,_,_⟩:=hL.at_ (by omega)
   obtain ⟨c0,c1,c2,c3⟩:=hL.cells hal
   have HOWN:=Qh (q1g w L[a] o (hs _ (List.getElem_mem hal)).1 (hs _ (List.getElem_mem hal)).2)
   obtain ⟨RV,hRV⟩:∃RV,RV=rightZ (m+1) o L a:=⟨_,rfl⟩
   rw [←hRV];have HC0:=Qh c0
   have HC3:=Qh c3
   have HL:=Qh hL
   have HIH:=Qh (fun W (k:Below w.heap.size w W) q (hq:q≤250000) ob=> ih W (some ⟨b,off,none⟩) n c L (hL.below k) hn hs q (d+1) ob (by omega) hq)
   cases ho:ownB L[a] o with
   | false=>
    rw [ho]at HOWN
    have HX:=Qh (show RV= -1 by rw [hRV,qxs hal ho])
    clear hRV HC0 HC3 HL HIH ih hL hs;unfold vv at HOWN;change Hid (Calls _ _ #[.agg #[.int .i64 _, .string _, .string _, .int .i64 _], .bool o] _ _)at HOWN
    generalize L[a]=v at*;obtain ⟨vk,vkey,vt,vn⟩:=v
    dsimp only at*
    generalize sb vkey=S1 at*;generalize sb vt=S2 at*;clear ho;go_enter Tryz.func106,Tryz.ntmps106
    go_wp2_with fail;refine HOWN.out.mono ?_
    rintro e w2 ⟨rfl,HB2⟩;clear HOWN c0 c1 c2 c3;go_wp2_with fail;go_ret;exact ⟨by rw [HX.out];rfl,HB2⟩
   | true=>
    rw [ho]at HOWN
    have hcb:=qwv ho
    have HX0:=Qh (show RV=kidsZ (rightR m (isObj L[a])) (isObj L[a]) L[a].count.toNat [] L (a+1)by rw [hRV,qrl hal ho])
    obtain ⟨N,hN⟩:∃N:Nat,L[a].count=(N:Int):=⟨L[a].count.toNat,by omega⟩
    rw [hN]at c3 HC3 HX0
    rw [Int.toNat_natCast]at HX0
    have HD:=Qh (show d+1+m=50 by omega)
    have HSH:=Qh hs
    unfold vv at HOWN;change Hid (Calls _ _ #[.agg #[.int .i64 _, .string _, .string _, .int .i64 _], .bool o] _ _)at HOWN
    rw [hN]at HOWN
    have hob:isObj L[a]=(L[a].kind==6):=by
     unfold isObj;by_cases h:L[a].kind=6
     ·rw [h];rfl
     ·rw [decide_eq_false h,beq_eq_false_iff_ne.2 h]
    rw [hob]at HX0
    have hN9:(N:Int)≤9223372036854775807∨9223372036854775807 < (N:Int):=by omega
    clear hRV ih hL hs ho hcb hob hN;generalize L[a].kind=vk at*;generalize sb L[a].key=S1 at*;generalize sb L[a].text=S2 at*;go_enter Tryz.func106,Tryz.ntmps106
    go_wp2_with fail;refine HOWN.out.mono ?_
    rintro e w2 ⟨rfl,HB2⟩;have d0:w2.cell? ⟨b,off+a*4,none⟩=some (.int .i64 vk):=(qad HB2.out).cell HC0.out (fun h=> h)
    clear HOWN c0 c1 c2 c3 HC0;go_wp2_with fail;clear d0;generalize (vk==6)=ob at*;rw [show ((d+1:Nat):Int)=(d:Int)+1 from by omega]at HIH
    go_loopg [11,12,13] N (fun g v11 v12 v13 wx=> ∃(i q c11:Nat) (A11:Option Addr) (nm:List (List UInt8)),v11= .slice A11 i c11∧v12= .int .i64 (q:Int)∧v13= .int .i64 (i:Int)∧i+g=N∧i+a+1≤q∧q≤n∧Hid (nm.length=i∧∃B,OwnStrs wx B (.slice A11 i c11) nm∧w.heap.size≤B∧B≤wx.heap.size)∧Hid (RV=kidsZ (rightR m ob) ob g nm.reverse L q)∧Hid (Below w.heap.size w wx))
    case atStart=> exact ⟨0,a+1,0,none,[],rfl,by go_num,rfl,by omega,by omega,by omega,Qh ⟨rfl,w2.heap.size,OwnStrs.nil _ _,HB2.out.size,Nat.le_refl _⟩,HX0,HB2⟩
    case round=>
     clear HX0 HB2;obtain ⟨i,q,c11,A11,nm,rfl,rfl,rfl,hig,hiq,hqn,HS,HX,HB⟩:=hrel
     have d3:wr.cell? ⟨b,off+a*4+3,none⟩=some (.int .i64 (N:Int)):=(qad HB.out).cell HC3.out (fun h=> h)
     cases gk with
     | zero=>
      obtain rfl:i=N:=by omega
      have hge:¬(i:Int) < (i:Int):=by omega
      have HX2:Hid (RV=(q:Int)):=HX
      clear HX HIH;go_wp2_with fail;go_ret;exact ⟨by rw [HX2.out];rfl,HB⟩
     | succ g=>
      have hiN:(i:Int) < (N:Int):=by omega
      by_cases hq:n≤q
      ·have q1:(n:Int)≤(q:Int):=by omega
       have q2:decide ((n:Int)≤(q:Int))=true:=decide_eq_true q1
       have q3:decide (n≤q)=true:=decide_eq_true hq
       have HX2:=Qh (show RV= -1 by rw [HX.out,qum (by omega)])
       clear HX HIH;go_wp2_with fail;go_ret;exact ⟨by rw [HX2.out];rfl,HB⟩
      ·have q1:¬(n:Int)≤(q:Int):=by omega
       have q2:decide ((n:Int)≤(q:Int))=false:=decide_eq_false q1
       have q3:decide (n≤q)=false:=decide_eq_false hq
       have hql:q < L.length:=by omega
       have hqi:(q:Int) < (n:Int):=by omega
       have HNM0:=Qh HS.out.1
       have HOS:=Qh HS.out.2
       have hi9:(i:Int)≤5000:=by omega
       clear HS;cases ob with
       | false=>
        have HNM:Hid (¬(false=true∧L[q].key∈nm.reverse)):=Qh (fun h=> by cases h.1)
        by_cases hi0:i=0
        ·subst hi0
         go_wp2_with fail;go_loopg [14] 1 (fun g2 v14 wy=> v14= .int .i64 0∧g2=1∧wr=wy)
         case atStart=> exact ⟨rfl,rfl,rfl⟩
         case round=>
          obtain ⟨rfl,rfl,rfl⟩:=hrel
          have HWY:=Qh (Below.refl wr.heap.size wr)
          have HNL:=Qh (show (nm++[L[q].key]).length=0+1 from by rw [List.length_append,HNM0.out];rfl)
          have HRE:=Qh (show (nm++[L[q].key]).reverse=L[q].key::nm.reverse from by rw [List.reverse_append];rfl)
          have HSB:=Qh (show ∃S,S=sb L[q].key from ⟨_,rfl⟩)
          have x1:wr.cell? ⟨b,off+q*4+1,none⟩=some (.string (sb L[q].key)):=(((HL.out.below HB.out).below HWY.out).cells hql).2.1
          have hbs1:=fun W=> qcx W (sb L[q].key)
          have HK8:=Qh (HWY.out.trans ((below_alloc' wr (.cells #[.string (sb L[q].key)] 9)).mono HWY.out.size))
          have HB8:=Qh (HB.out.trans (HK8.out.mono HB.out.size))
          obtain ⟨B6,hB6,hB61,hB62⟩:=HOS.out
          have HO8:=Qh (hB6.below HK8.out)
          have HN8:=Qh (StrsAt.new1 wr L[q].key)
          have hsz8:=Qh (show B6≤(wr.alloc (.cells #[.string (sb L[q].key)] 9)).heap.size from Nat.le_trans hB62 HK8.out.size)
          have hq9:q≤250000:=by omega
          clear HOS hB6;cases hr:rightR m false (L.drop q)with
          | none=>
           have HX2:=Qh (show RV= -1 by rw [HX.out,qgu hql HNM.out hr])
           have HIQ:=Qh (fun W (k:Below w.heap.size w W)=> show Calls _ _ #[_, .int .i64 (q:Int), .int .i64 ((d:Int)+1), .bool false] W fun e w'=> e= .returned (.int .i64 (-1))∧Hid (Below W.heap.size W w')from by have h:=HIH.out W k q hq9 false;unfold rightZ at h;rw [hr]at h;exact h)
           clear HX hr HNM HRE HSB;generalize sb L[q].key=KJ at*;go_wp2_with (at_builtin;go_must (with_reducible refine qck rfl _ _ rfl B6 (.slice A11 0 c11) nm rfl HO8.out ⟨wr.heap.size,0,none⟩ 1 1 [L[q].key] rfl HN8.out (by rw [HNM0.out];omega) hsz8.out ?_;intro v9 w9 h1 h2;have HB9:=Qh (HB8.out.trans (qak h2.out HB8.out.size (fun i hi e=> by omega)));have h9:=h1.out.strs;rw [HNL.out]at h9;obtain ⟨A9,c9,rfl, -⟩:=h9))
           refine (HIQ.out w9 HB9.out).mono ?_
           rintro e w10 ⟨rfl,HB10⟩;have HB11:=Qh (HB9.out.trans (HB10.out.mono HB9.out.size))
           clear HIQ x1;go_wp2_with fail;go_ret;exact ⟨by rw [HX2.out];rfl,HB11⟩
          | some kk=>
           obtain ⟨hk0,hkl⟩:=qhq HD.out hr
           rw [List.length_drop]at hkl
           have HX2:=Qh (show RV=kidsZ (rightR m false) false g (nm++[L[q].key]).reverse L (q+kk)by rw [HX.out,qg0 hql HNM.out hr,HRE.out])
           have HIQ:=Qh (fun W (k:Below w.heap.size w W)=> show Calls _ _ #[_, .int .i64 (q:Int), .int .i64 ((d:Int)+1), .bool false] W fun e w'=> e= .returned (.int .i64 ((q+kk:Nat):Int))∧Hid (Below W.heap.size W w')from by have h:=HIH.out W k q hq9 false;unfold rightZ at h;rw [hr]at h;exact h)
           have hneg:¬((q:Int)+(kk:Int)) < 0:=by omega
           clear HX hr HNM HRE HSB;generalize sb L[q].key=KJ at*;go_wp2_with (at_builtin;go_must (with_reducible refine qck rfl _ _ rfl B6 (.slice A11 0 c11) nm rfl HO8.out ⟨wr.heap.size,0,none⟩ 1 1 [L[q].key] rfl HN8.out (by rw [HNM0.out];omega) hsz8.out ?_;intro v9 w9 h1 h2;have HB9:=Qh (HB8.out.trans (qak h2.out HB8.out.size (fun i hi e=> by omega)));have h9:=h1.out.strs;rw [HNL.out]at h9;obtain ⟨A9,c9,rfl, -⟩:=h9))
           refine (HIQ.out w9 HB9.out).mono ?_
           rintro e w10 ⟨rfl,HB10⟩;have HB11:=Qh (HB9.out.trans (HB10.out.mono HB9.out.size))
           have HO11:=Qh (h1.out.below HB10.out)
           have HSZ11:=Qh (Nat.le_trans (Nat.le_trans hsz8.out h2.out.size) HB10.out.size)
           clear HIQ x1 h1 h2 HB9 HB10 HK8 HB8 HO8 HN8;go_wp2_with fail;go_roundg g
           case measure=> omega
           case rel=> exact ⟨0+1,q+kk,c9,A9,nm++[L[q].key],rfl,by go_num,by go_num,by omega,by omega,by omega,Qh ⟨HNL.out,B6,HO11.out,hB61,HSZ11.out⟩,HX2,HB11⟩
        ·have hip:(0:Int) < (i:Int):=by omega
         have hip2:0 < i:=by omega
         go_wp2_with fail;go_loopg [14] 1 (fun g2 v14 wy=> v14= .int .i64 0∧g2=1∧wr=wy)
         case atStart=> exact ⟨rfl,rfl,rfl⟩
         case round=>
          obtain ⟨rfl,rfl,rfl⟩:=hrel
          have HWY:=Qh (Below.refl wr.heap.size wr)
          have HNL:=Qh (show (nm++[L[q].key]).length=i+1 from by rw [List.length_append,HNM0.out];rfl)
          have HRE:=Qh (show (nm++[L[q].key]).reverse=L[q].key::nm.reverse from by rw [List.reverse_append];rfl)
          have HSB:=Qh (show ∃S,S=sb L[q].key from ⟨_,rfl⟩)
          have x1:wr.cell? ⟨b,off+q*4+1,none⟩=some (.string (sb L[q].key)):=(((HL.out.below HB.out).below HWY.out).cells hql).2.1
          have hbs1:=fun W=> qcx W (sb L[q].key)
          have HK8:=Qh (HWY.out.trans ((below_alloc' wr (.cells #[.string (sb L[q].key)] 9)).mono HWY.out.size))
          have HB8:=Qh (HB.out.trans (HK8.out.mono HB.out.size))
          obtain ⟨B6,hB6,hB61,hB62⟩:=HOS.out
          have HO8:=Qh (hB6.below HK8.out)
          have HN8:=Qh (StrsAt.new1 wr L[q].key)
          have hsz8:=Qh (show B6≤(wr.alloc (.cells #[.string (sb L[q].key)] 9)).heap.size from Nat.le_trans hB62 HK8.out.size)
          have hq9:q≤250000:=by omega
          clear HOS hB6;cases hr:rightR m false (L.drop q)with
          | none=>
           have HX2:=Qh (show RV= -1 by rw [HX.out,qgu hql HNM.out hr])
           have HIQ:=Qh (fun W (k:Below w.heap.size w W)=> show Calls _ _ #[_, .int .i64 (q:Int), .int .i64 ((d:Int)+1), .bool false] W fun e w'=> e= .returned (.int .i64 (-1))∧Hid (Below W.heap.size W w')from by have h:=HIH.out W k q hq9 false;unfold rightZ at h;rw [hr]at h;exact h)
           clear HX hr HNM HRE HSB;generalize sb L[q].key=KJ at*;go_wp2_with (at_builtin;go_must (with_reducible refine qck rfl _ _ rfl B6 (.slice A11 i c11) nm rfl HO8.out ⟨wr.heap.size,0,none⟩ 1 1 [L[q].key] rfl HN8.out (by rw [HNM0.out];omega) hsz8.out ?_;intro v9 w9 h1 h2;have HB9:=Qh (HB8.out.trans (qak h2.out HB8.out.size (fun i hi e=> by omega)));have h9:=h1.out.strs;rw [HNL.out]at h9;obtain ⟨A9,c9,rfl, -⟩:=h9))
           refine (HIQ.out w9 HB9.out).mono ?_
           rintro e w10 ⟨rfl,HB10⟩;have HB11:=Qh (HB9.out.trans (HB10.out.mono HB9.out.size))
           clear HIQ x1;go_wp2_with fail;go_ret;exact ⟨by rw [HX2.out];rfl,HB11⟩
          | some kk=>
           obtain ⟨hk0,hkl⟩:=qhq HD.out hr
           rw [List.length_drop]at hkl
           have HX2:=Qh (show RV=kidsZ (rightR m false) false g (nm++[L[q].key]).reverse L (q+kk)by rw [HX.out,qg0 hql HNM.out hr,HRE.out])
           have HIQ:=Qh (fun W (k:Below w.heap.size w W)=> show Calls _ _ #[_, .int .i64 (q:Int), .int .i64 ((d:Int)+1), .bool false] W fun e w'=> e= .returned (.int .i64 ((q+kk:Nat):Int))∧Hid (Below W.heap.size W w')from by have h:=HIH.out W k q hq9 false;unfold rightZ at h;rw [hr]at h;exact h)
           have hneg:¬((q:Int)+(kk:Int)) < 0:=by omega
           clear HX hr HNM HRE HSB;generalize sb L[q].key=KJ at*;go_wp2_with (at_builtin;go_must (with_reducible refine qck rfl _ _ rfl B6 (.slice A11 i c11) nm rfl HO8.out ⟨wr.heap.size,0,none⟩ 1 1 [L[q].key] rfl HN8.out (by rw [HNM0.out];omega) hsz8.out ?_;intro v9 w9 h1 h2;have HB9:=Qh (HB8.out.trans (qak h2.out HB8.out.size (fun i hi e=> by omega)));have h9:=h1.out.strs;rw [HNL.out]at h9;obtain ⟨A9,c9,rfl, -⟩:=h9))
           refine (HIQ.out w9 HB9.out).mono ?_
           rintro e w10 ⟨rfl,HB10⟩;have HB11:=Qh (HB9.out.trans (HB10.out.mono HB9.out.size))
           have HO11:=Qh (h1.out.below HB10.out)
           have HSZ11:=Qh (Nat.le_trans (Nat.le_trans hsz8.out h2.out.size) HB10.out.size)
           clear HIQ x1 h1 h2 HB9 HB10 HK8 HB8 HO8 HN8;go_wp2_with fail;go_roundg g
           case measure=> omega
           case rel=> exact ⟨i+1,q+kk,c9,A9,nm++[L[q].key],rfl,by go_num,by go_num,by omega,by omega,by omega,Qh ⟨HNL.out,B6,HO11.out,hB61,HSZ11.out⟩,HX2,HB11⟩
       | true=>
        have HST:=Qh (show StrsAt wr A11 i c11 nm from by
         obtain ⟨B,h,_,_⟩:=HOS.out
         obtain ⟨A',c',e,hs⟩:=h.strs
         simp only [Value.slice.injEq]at e
         obtain ⟨rfl,e2,rfl⟩:=e
         rw [←e2]at hs
         exact hs)
        go_wp2_with fail;generalize wr=wq at*;go_loopg [14] i (fun g2 v14 wy=> ∃j mm:Nat,v14= .int .i64 (j:Int)∧j+g2=i∧wy=wq.drewN mm∧Hid (∀x,x < j→nm[x]? ≠some L[q].key))
        case atStart=> exact ⟨0,0,rfl,by omega,rfl,Qh (fun x h=> absurd h (Nat.not_lt_zero _))⟩
        case round=>
         obtain ⟨j,mm,rfl,hjg,hwy,HNO⟩:=hrel
         have HWY:=Qh (show Below wq.heap.size wq wr from by rw [hwy];exact qaa (Below.refl _ _) _)
         cases gk with
         | zero=>
          obtain rfl:j=i:=by omega
          have HNM:Hid (¬(true=true∧L[q].key∈nm.reverse)):=Qh (fun h=> by
           obtain ⟨x,hx⟩:=List.getElem?_of_mem (List.mem_reverse.1 h.2)
           have:=(List.getElem?_eq_some_iff.1 hx).1
           exact HNO.out x (by rw [HNM0.out]at this;exact this) hx)
          have hgj:¬(j:Int) < (j:Int):=by omega
          clear hwy HNO HST;have HNL:=Qh (show (nm++[L[q].key]).length=j+1 from by rw [List.length_append,HNM0.out];rfl)
          have HRE:=Qh (show (nm++[L[q].key]).reverse=L[q].key::nm.reverse from by rw [List.reverse_append];rfl)
          have HSB:=Qh (show ∃S,S=sb L[q].key from ⟨_,rfl⟩)
          have x1:wr.cell? ⟨b,off+q*4+1,none⟩=some (.string (sb L[q].key)):=(((HL.out.below HB.out).below HWY.out).cells hql).2.1
          have hbs1:=fun W=> qcx W (sb L[q].key)
          have HK8:=Qh (HWY.out.trans ((below_alloc' wr (.cells #[.string (sb L[q].key)] 9)).mono HWY.out.size))
          have HB8:=Qh (HB.out.trans (HK8.out.mono HB.out.size))
          obtain ⟨B6,hB6,hB61,hB62⟩:=HOS.out
          have HO8:=Qh (hB6.below HK8.out)
          have HN8:=Qh (StrsAt.new1 wr L[q].key)
          have hsz8:=Qh (show B6≤(wr.alloc (.cells #[.string (sb L[q].key)] 9)).heap.size from Nat.le_trans hB62 HK8.out.size)
          have hq9:q≤250000:=by omega
          clear HOS hB6;cases hr:rightR m true (L.drop q)with
          | none=>
           have HX2:=Qh (show RV= -1 by rw [HX.out,qgu hql HNM.out hr])
           have HIQ:=Qh (fun W (k:Below w.heap.size w W)=> show Calls _ _ #[_, .int .i64 (q:Int), .int .i64 ((d:Int)+1), .bool true] W fun e w'=> e= .returned (.int .i64 (-1))∧Hid (Below W.heap.size W w')from by have h:=HIH.out W k q hq9 true;unfold rightZ at h;rw [hr]at h;exact h)
           clear HX hr HNM HRE HSB;generalize sb L[q].key=KJ at*;go_wp2_with (at_builtin;go_must (with_reducible refine qck rfl _ _ rfl B6 (.slice A11 j c11) nm rfl HO8.out ⟨wr.heap.size,0,none⟩ 1 1 [L[q].key] rfl HN8.out (by rw [HNM0.out];omega) hsz8.out ?_;intro v9 w9 h1 h2;have HB9:=Qh (HB8.out.trans (qak h2.out HB8.out.size (fun i hi e=> by omega)));have h9:=h1.out.strs;rw [HNL.out]at h9;obtain ⟨A9,c9,rfl, -⟩:=h9))
           refine (HIQ.out w9 HB9.out).mono ?_
           rintro e w10 ⟨rfl,HB10⟩;have HB11:=Qh (HB9.out.trans (HB10.out.mono HB9.out.size))
           clear HIQ x1;go_wp2_with fail;go_ret;exact ⟨by rw [HX2.out];rfl,HB11⟩
          | some kk=>
           obtain ⟨hk0,hkl⟩:=qhq HD.out hr
           rw [List.length_drop]at hkl
           have HX2:=Qh (show RV=kidsZ (rightR m true) true g (nm++[L[q].key]).reverse L (q+kk)by rw [HX.out,qg0 hql HNM.out hr,HRE.out])
           have HIQ:=Qh (fun W (k:Below w.heap.size w W)=> show Calls _ _ #[_, .int .i64 (q:Int), .int .i64 ((d:Int)+1), .bool true] W fun e w'=> e= .returned (.int .i64 ((q+kk:Nat):Int))∧Hid (Below W.heap.size W w')from by have h:=HIH.out W k q hq9 true;unfold rightZ at h;rw [hr]at h;exact h)
           have hneg:¬((q:Int)+(kk:Int)) < 0:=by omega
           clear HX hr HNM HRE HSB;generalize sb L[q].key=KJ at*;go_wp2_with (at_builtin;go_must (with_reducible refine qck rfl _ _ rfl B6 (.slice A11 j c11) nm rfl HO8.out ⟨wr.heap.size,0,none⟩ 1 1 [L[q].key] rfl HN8.out (by rw [HNM0.out];omega) hsz8.out ?_;intro v9 w9 h1 h2;have HB9:=Qh (HB8.out.trans (qak h2.out HB8.out.size (fun i hi e=> by omega)));have h9:=h1.out.strs;rw [HNL.out]at h9;obtain ⟨A9,c9,rfl, -⟩:=h9))
           refine (HIQ.out w9 HB9.out).mono ?_
           rintro e w10 ⟨rfl,HB10⟩;have HB11:=Qh (HB9.out.trans (HB10.out.mono HB9.out.size))
           have HO11:=Qh (h1.out.below HB10.out)
           have HSZ11:=Qh (Nat.le_trans (Nat.le_trans hsz8.out h2.out.size) HB10.out.size)
           clear HIQ x1 h1 h2 HB9 HB10 HK8 HB8 HO8 HN8;go_wp2_with fail;go_roundg g
           case measure=> omega
           case rel=> exact ⟨j+1,q+kk,c9,A9,nm++[L[q].key],rfl,by go_num,by go_num,by omega,by omega,by omega,Qh ⟨HNL.out,B6,HO11.out,hB61,HSZ11.out⟩,HX2,HB11⟩
         | succ g2=>
          have hji:(j:Int) < (i:Int):=by omega
          have hjn:j < nm.length:=by rw [HNM0.out];omega
          obtain ⟨b1,o1,rfl,ck⟩:=HST.out.cell hjn
          have cn:=(((HL.out.below HB.out)).cells hql).2.1
          have hji2:j < i:=by omega
          have d33:=d3
          subst hwy;by_cases hke:nm[j]=L[q].key
          ·rw [hke]at ck
           have HX2:=Qh (show RV= -1 by
            rw [HX.out,qrs hql];exact List.mem_reverse.2 (hke▸List.getElem_mem hjn))
           clear HX HIH hke HNO HST HOS HWY;generalize sb L[q].key=K1 at*;go_upto_region 17 with fail;go_quiet (fail)
           have HB2:=Qh (qaa (qaa HB.out mm) nq)
           clear ck cn d3 d33;go_wp2_with fail;go_ret;exact ⟨by rw [HX2.out];rfl,HB2⟩
          ·have hb1:((sb nm[j]).toList==(sb L[q].key).toList)=false:=by rw [qab,qab];exact beq_eq_false_iff_ne.2 hke
           have HNO2:Hid (∀x,x < j+1→nm[x]? ≠some L[q].key):=Qh (fun x hx e=> by
            by_cases hxj:x=j
            ·subst hxj
             rw [List.getElem?_eq_getElem hjn]at e
             exact hke (Option.some.inj e)
            ·exact HNO.out x (by omega) e)
           clear hke HNO HST HIH HX HOS HWY;generalize sb nm[j]=K0 at*;generalize sb L[q].key=K1 at*;go_upto_region 17 with fail;go_quiet (fail)
           rw [World.drewN_drewN];clear ck cn;go_wp2_with fail;go_roundg g2
           case measure=> omega
           case rel=> exact ⟨j+1,mm+nq,by go_num,by omega,rfl,HNO2⟩
theorem qhy (w:World) (A:Option Addr) (n c:Nat) (L:List V) (hL:ValsAt w A n c L) (hn:n≤1000000) (hs:Short 1000000000 L):
  Calls Tryz.prog 71 #[.slice A n c] w fun e w'=> e= .returned (.bool (rightPF L))∧Hid (Below w.heap.size w w'):=by
 have HB:=Qh (Below.refl w.heap.size w)
 have hlen:=hL.len
 have hpf:rightPF L=rightF L:=by
  rw [Bool.eq_iff_iff,qa4,qyq]
 rw [hpf]
 unfold rightF
 by_cases h0:n=0
 ·subst h0
  obtain rfl:L=[]:=List.eq_nil_of_length_eq_zero hlen
  have hr:(decide (([]:List V).length≤5000) && decide (rightR 50 false []=some ([]:List V).length))=false:=rfl
  rw [hr];clear hL hs;go_enter Tryz.func71,Tryz.ntmps71
  go_wp2_with fail;go_ret;exact ⟨rfl,HB⟩
 ·have h1:(0:Int) < (n:Int):=by omega
  have h1n:0 < n:=by omega
  by_cases h5:n≤5000
  ·have h2:(n:Int)≤5000:=by omega
   have d2:decide ((n:Int)≤5000)=true:=decide_eq_true h2
   have HR:=Qh (qv3 50 w A n c L hL h5 hs 0 0 false rfl (by omega))
   obtain ⟨RV,hRV⟩:∃RV,RV=(decide (L.length≤5000) && decide (rightR 50 false L=some L.length)):=⟨_,rfl⟩
   rw [←hRV];rw [decide_eq_true (by omega),Bool.true_and]at hRV
   have hz:((rightZ 50 false L 0)==(n:Int))=decide (rightR 50 false L=some L.length):=by
    unfold rightZ;rw [List.drop_zero];cases hr:rightR 50 false L with
    | none=>
     rw [decide_eq_false (by intro h;cases h)]
     exact beq_eq_false_iff_ne.2 (show (-1:Int)≠(n:Int)by omega)
    | some k=>
     show (((0+k:Nat):Int)==(n:Int))=_
     by_cases hk:k=L.length
     ·rw [hk,decide_eq_true rfl,hlen]
      simp
     ·rw [decide_eq_false (fun h=> hk (Option.some.inj h))]
      exact beq_eq_false_iff_ne.2 (by omega)
   rw [←hz]at hRV
   have HX:=Qh hRV
   clear hRV hz hL hs;change Hid (Calls _ _ #[_, .int .i64 0, .int .i64 0,_] _ _)at HR
   generalize rightZ 50 false L 0=z at*;go_enter Tryz.func71,Tryz.ntmps71
   go_wp2_with fail;refine HR.out.mono ?_
   rintro e w2 ⟨rfl,HB2⟩;clear HR;go_wp2_with fail;go_ret;exact ⟨by rw [HX.out];rfl,HB2⟩
  ·have h2:¬(n:Int)≤5000:=by omega
   have d2:decide ((n:Int)≤5000)=false:=decide_eq_false h2
   rw [decide_eq_false (by omega),Bool.false_and];clear hL hs;go_enter Tryz.func71,Tryz.ntmps71
   go_wp2_with fail;go_ret;exact ⟨rfl,HB⟩
end Go.Proofs.YtgmangikcfakgaaGreatDoor
