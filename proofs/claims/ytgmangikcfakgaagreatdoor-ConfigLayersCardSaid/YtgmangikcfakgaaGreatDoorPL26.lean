import Derived.Test.YtgmangikcfakgaaGreatDoorPL25
import Derived.Test.YtgmangikcfakgaaGreatDoorPL13
import Derived.BigQuiet
import Derived.Test.YtgmangikcfakgaaGreatDoorPL7
namespace Go.Proofs.YtgmangikcfakgaaGreatDoor
open Go.RowKit Sh Jt Js Jo
namespace Jo
theorem offs_next (P:List (List V)) {j:Nat} (h:j < P.length):offs P (j+1)=offs P j+P[j].length:=by
 unfold offs
 rw [List.take_succ_eq_append_getElem h,List.flatten_append,List.length_append]
 simp
theorem offs_le (P:List (List V)) (j:Nat):offs P j≤P.flatten.length:=by
 unfold offs
 conv=> rhs;rw [←List.take_append_drop j P,List.flatten_append,List.length_append]
 omega
theorem list_some {P:List (List V)} (h:(listA P).length≠0):listA P=listF P∧P.all rightPF=true:=by
 unfold listA fineF at h ⊢
 split at h
 next hP=>
  rw [if_pos hP]
  split at h
  next hr=> rw [if_pos hr];exact ⟨rfl,hP⟩
  next hr=> exact absurd rfl h
 next hP=> exact absurd rfl h
end Jo
set_option maxRecDepth 100000 in
set_option maxHeartbeats 4000000 in
theorem jo_object (w:World) (A:Option Addr) (n c:Nat) (ks:List (List UInt8)) (hK:StrsAt w A n c ks) (hkn:n≤4000) (hks:∀k∈ks,k.length≤1000000000) (A2:Option Addr) (n2 c2:Nat) (Q:List Pc) (hQ:SlsAt w A2 n2 c2 Q) (hn:n2≤4000) (hs:∀p∈Q,Short 1000000000 p.row) (hl:(rowsOf Q).flatten.length≤4000) (hT:TabOk w):
  Calls Tryz.prog 19 #[.slice A n c, .slice A2 n2 c2] w fun e w'=> ∃v',e= .returned v'∧Hid (OwnVals w' w.heap.size v' (objA ks (rowsOf Q))∧Below w.heap.size w w'):=by
 have HLI:=Lib.hid (jo_list w A2 n2 c2 Q hQ hn hs hl hT)
 have hlen:=hK.len
 have hlen2:=hQ.len
 obtain ⟨RV,hRV⟩:∃RV,RV=objA ks (rowsOf Q):=⟨_,rfl⟩
 rw [←hRV]
 by_cases he:(listA (rowsOf Q)).length=0
 ·have he2:=List.eq_nil_of_length_eq_zero he
  rw [he2]at HLI
  have HX:Hid (RV=[]):=Lib.hid (by rw [hRV,list_none he2])
  clear hRV he he2 hK hQ hs hl hT hks
  go_enter Tryz.func19,Tryz.ntmps19
  go_wp2_with fail
  refine HLI.out.mono ?_
  rintro e w2 ⟨v2,rfl,H2⟩
  obtain ⟨A3,c3,rfl, -⟩:=H2.out.1.vals
  change Hid (OwnVals _ _ (.slice A3 0 c3) _∧_)at H2
  clear HLI
  go_wp2_with fail
  go_ret
  exact ⟨_,rfl,Lib.hid ⟨by rw [HX.out];exact OwnVals.nil _ _,H2.out.2⟩⟩
 ·obtain ⟨hlf,hall⟩:=list_some he
  rw [hlf]at HLI
  have hPl:(rowsOf Q).length=n2:=by unfold rowsOf;rw [List.length_map];exact hlen2
  have hll:(listF (rowsOf Q)).length=1+(rowsOf Q).flatten.length:=by unfold listF;rw [List.length_cons];omega
  obtain ⟨N,hN⟩:∃N,N=1+(rowsOf Q).flatten.length:=⟨_,rfl⟩
  rw [←hN]at hll
  have HLL:=Lib.hid hll
  have hN0:0 < N∧N≤4001:=by omega
  have hN0i:(0:Int) < (N:Int):=by omega
  have hNb:((N:Int)==0)=false:=beq_eq_false_iff_ne.2 (by omega)
  by_cases hnn:n=n2
  ·subst hnn
   have HRV:Hid (RV=fineF (halfO ks (rowsOf Q) n)):=Lib.hid (by
    rw [hRV]
    unfold objA
    rw [if_pos ⟨hall,by rw [hlen,hPl]⟩,←half_all (by rw [hlen,hPl]),hPl])
   have HSY:Hid (Short 1000000000 (halfO ks (rowsOf Q) n)):=Lib.hid (by
    have h:=half_short (P:=rowsOf Q) (ks:=ks) (m:=1000000000) (fun p hp=> by
     obtain ⟨q,hq,rfl⟩:=List.mem_map.1 hp
     exact hs q hq) hks
    rw [←half_all (by rw [hlen,hPl]),hPl]at h
    exact h)
   have HHL:=Lib.hid (fun j=> show (halfO ks (rowsOf Q) j).length=N from by rw [half_len (by rw [hlen,hPl]),hN])
   have HNX:=Lib.hid (fun (j:Nat) (hj:j < Q.length) (hjk:j < ks.length)=> show (rowsOf Q).length=n→keyAt (1+offs (rowsOf Q) j) ks[j] (halfO ks (rowsOf Q) j)=halfO ks (rowsOf Q) (j+1)∧offs (rowsOf Q) (j+1)=offs (rowsOf Q) j+Q[j].row.length∧0 < Q[j].row.length∧1+offs (rowsOf Q) j+Q[j].row.length≤N from fun hpl=> by
    have hj2:j < (rowsOf Q).length:=by omega
    have hg:(rowsOf Q)[j]=Q[j].row:=by simp [rowsOf]
    have hp:0 < Q[j].row.length:=by
     have h:=(right_end (List.all_eq_true.1 hall _ (List.getElem_mem hj2))).2.1
     rw [hg]at h
     exact h
    have h1:=offs_next (rowsOf Q) hj2
    have h2:=offs_le (rowsOf Q) (j+1)
    rw [hg]at h1
    exact ⟨half_next (by rw [hlen,hPl]) hj2 (by rw [hg];exact hp),h1,hp,by omega⟩)
   have HK:=Lib.hid hK
   have HQ:=Lib.hid hQ
   have HT:=Lib.hid hT
   have HPL:=Lib.hid hPl
   have hn9:(n:Int)≤4000:=by omega
   have hbn:((n:Int) !=(n:Int))=false:=by simp
   have HLF:Hid (listF (rowsOf Q)=⟨5,[],[],n⟩::(rowsOf Q).flatten):=Lib.hid (by unfold listF;rw [hPl])
   have HH0:Hid (halfO ks (rowsOf Q) 0=⟨6,[],[],n⟩::(rowsOf Q).flatten):=Lib.hid (by rw [half_zero,hPl])
   clear hRV hK hQ hs hl hT hks he hlf hall hPl hll hN
   go_enter Tryz.func19,Tryz.ntmps19
   go_wp2_with fail
   refine HLI.out.mono ?_
   rintro e w2 ⟨v2,rfl,H2⟩
   clear HLI
   have hg2:=H2.out.1.got (by rw [HLL.out];omega)
   rw [HLL.out]at hg2
   obtain ⟨g2,k2,rfl,hg2b,hg2l,hk2⟩:=hg2
   have f0:=H2.out.1.unfrozen 0
   have hL0:0 < (listF (rowsOf Q)).length:=by rw [HLL.out];omega
   obtain ⟨x0,y0⟩:∃x,w2.cell? ⟨g2,0,none⟩=some x:=by
    obtain ⟨y0,_,_,_⟩:=H2.out.1.at_.1.cells hL0
    rw [Nat.zero_mul,Nat.zero_add]at y0
    exact ⟨_,y0⟩
   have hs1:=H2.out.1
   rw [HLF.out]at hs1
   have hs2:=hs1.set (i:=0) (j:=0) (by simp) (by decide) (x:= .int .i64 6) (v:=⟨6,[],[],n⟩) rfl
   rw [List.set_cons_zero,←HH0.out,Nat.zero_mul,Nat.zero_add]at hs2
   have HF:=Lib.hid (And.intro hs2 (H2.out.2.trans (hs1.setBelow 0 (.int .i64 6))))
   clear hs1 hs2 H2 HLL HLF hL0
   go_wp2_with fail
   go_loopg [6,26] n (fun g v6 v26 wx=> ∃j y:Nat,v6= .int .i64 (y:Int)∧v26= .int .i64 (j:Int)∧j+g=n∧y≤4001∧Hid (y=1+offs (rowsOf Q) j)∧Hid (OwnVals wx w.heap.size (.slice (some ⟨g2,0,none⟩) N k2) (halfO ks (rowsOf Q) j)∧Below w.heap.size w wx))
   case atStart=> exact ⟨0,1,rfl,rfl,by omega,by omega,Lib.hid rfl,HF⟩
   case round=>
    clear HF f0 y0
    obtain ⟨j,y,rfl,rfl,hjg,hy9,HY,HH⟩:=hrel
    cases gk with
    | zero=>
     obtain rfl:j=n:=by omega
     have hge:¬(j:Int) < (j:Int):=by omega
     have HI:=Lib.hid (jo_ifRight wr (some ⟨g2,0,none⟩) N k2 _ HH.out.1.at_.1 (by omega) HSY.out (HT.out.below HH.out.2))
     clear HSY HY HNX HHL
     unfold fineF at HRV
     generalize rightPF (halfO ks (rowsOf Q) j)=RY at*
     have HLE2:=Lib.hid HH.out.2.size
     cases RY with
     | true=>
      go_wp2_with fail
      refine HI.out.mono ?_
      rintro e w7 ⟨rfl,HB8⟩
      clear HI
      go_wp2_with fail
      go_ret
      exact ⟨_,rfl,Lib.hid ⟨by rw [HRV.out];exact HH.out.1.below HB8.out,HH.out.2.trans (HB8.out.mono HLE2.out)⟩⟩
     | false=>
      go_wp2_with fail
      refine HI.out.mono ?_
      rintro e w7 ⟨rfl,HB8⟩
      clear HI
      go_wp2_with fail
      go_ret
      exact ⟨_,rfl,Lib.hid ⟨by rw [HRV.out];exact OwnVals.nil _ _,HH.out.2.trans (HB8.out.mono HLE2.out)⟩⟩
    | succ g=>
     have hj:j < Q.length:=by omega
     have hjk:j < ks.length:=by omega
     obtain ⟨m1,m2,m3,m4⟩:=HNX.out j hj hjk HPL.out
     obtain ⟨b,o,rfl,cc⟩:=(HQ.out.below HH.out.2).cell hj
     obtain ⟨b1,o1,rfl,ck⟩:=(HK.out.below HH.out.2).cell hjk
     have HY2:=Lib.hid (show y+Q[j].row.length=1+offs (rowsOf Q) (j+1)by rw [m2,HY.out];omega)
     have hyN:y < N:=by have:=HY.out;omega
     have hyNi:(y:Int) < (N:Int):=by omega
     have hy2:y+Q[j].row.length≤N:=by have:=HY.out;omega
     have hyl:y < (halfO ks (rowsOf Q) j).length:=by rw [HHL.out];exact hyN
     have fz:=HH.out.1.unfrozen (y*4+1)
     obtain ⟨x1,y1⟩:∃x,wr.cell? ⟨g2,y*4+1,none⟩=some x:=by
      obtain ⟨_,y1,_,_⟩:=HH.out.1.at_.1.cells hyl
      rw [Nat.zero_add]at y1
      exact ⟨_,y1⟩
     have hs1:=HH.out.1.set (i:=y) (j:=1) hyl (by decide) (x:= .string (sb ks[j])) (v:=⟨(halfO ks (rowsOf Q) j)[y].kind,ks[j],(halfO ks (rowsOf Q) j)[y].text,(halfO ks (rowsOf Q) j)[y].count⟩) rfl
     rw [key_set _ hyl,HY.out,m1,←HY.out]at hs1
     have HF:=Lib.hid (And.intro hs1 (HH.out.2.trans (HH.out.1.setBelow (y*4+1) (.string (sb ks[j])))))
     have hjn:(j:Int) < (n:Int):=by omega
     clear hs1 m1 m2 m3 m4 HH hyl HY
     unfold Pc.enc at cc
     generalize Q[j]=p at*
     obtain ⟨pa,pc,prow⟩:=p
     dsimp only at*
     generalize prow.length=pl at*
     generalize sb ks[j]=KK at*
     go_wp2_with fail
     go_roundg g
     case measure=> omega
     case rel=> exact ⟨j+1,y+pl,by go_num,by go_num,by omega,by omega,HY2,HF⟩
  ·have hbn:((n:Int) !=(n2:Int))=true:=bne_iff_ne.2 (by omega)
   have HX:Hid (RV=[]):=Lib.hid (by
    rw [hRV]
    unfold objA
    rw [if_neg (fun h=> hnn (by have:=h.2;omega))])
   clear hRV hK hQ hs hl hT hks he hlf hall hPl hll hN hnn
   go_enter Tryz.func19,Tryz.ntmps19
   go_wp2_with fail
   refine HLI.out.mono ?_
   rintro e w2 ⟨v2,rfl,H2⟩
   have hg2:=H2.out.1.got (by rw [HLL.out];omega)
   rw [HLL.out]at hg2
   obtain ⟨g2,k2,rfl, -⟩:=hg2
   clear HLI
   go_wp2_with fail
   go_ret
   exact ⟨_,rfl,Lib.hid ⟨by rw [HX.out];exact OwnVals.nil _ _,H2.out.2⟩⟩
end Go.Proofs.YtgmangikcfakgaaGreatDoor
namespace Go.Proofs.YtgmangikcfakgaaGreatDoor
open Go.RowKit Sh Jt Js
theorem js_str_eq (a b:List UInt8):((sb a).toList==(sb b).toList)=(a==b):=by rw [sb_list,sb_list]
set_option maxRecDepth 100000 in
theorem js_eq (W:World) (k1 k2 n1 n2:Int) (a b c d:ByteArray):(Op.equalIn 10000 72 (.agg #[.int .i64 k1, .string a, .string b, .int .i64 n1]) (.agg #[.int .i64 k2, .string c, .string d, .int .i64 n2])).run Tryz.prog W= .ok (((k1==k2) && (a.toList==c.toList)) && ((b.toList==d.toList) && (n1==n2))) W:=by
 cases h0:(k1==k2) <;> cases h1:(a.toList==c.toList) <;> cases h2:(b.toList==d.toList) <;> cases h3:(n1==n2) <;> go_simp
end Go.Proofs.YtgmangikcfakgaaGreatDoor
namespace Go.Proofs.YtgmangikcfakgaaGreatDoor
open Go.RowKit Sh Jt Js Jo
theorem own_form {f:FuncId} {args:Array Value} {W:World} {L:List V} {n:Nat} (hn:L.length=n) (h0:0 < n) (h:Calls Tryz.prog f args W fun e w'=> ∃v',e= .returned v'∧Hid (OwnVals w' W.heap.size v' L∧Below W.heap.size W w')):
  Calls Tryz.prog f args W fun e w'=> ∃g k,e= .returned (.slice (some ⟨g,0,none⟩) n k)∧Hid (OwnVals w' W.heap.size (.slice (some ⟨g,0,none⟩) n k) L∧ValsAt w' (some ⟨g,0,none⟩) n k L∧Below W.heap.size W w'):=by
 subst hn
 refine h.mono ?_
 rintro e w' ⟨v',rfl,H⟩
 obtain ⟨g,k,rfl, -⟩:=H.out.1.got h0
 exact ⟨g,k,rfl,Lib.hid ⟨H.out.1,H.out.1.at_.1,H.out.2⟩⟩
theorem jo_infoStr:∃i,Tryz.prog.info? 9=some i∧i.zero=some (.string ⟨#[]⟩)∧i.size=1∧i.bytes=16:=by
 have h:(Tryz.prog.info? 9).map (fun i=> (i.zero,i.size,i.bytes))=some (some (.string ⟨#[]⟩),1,16):=by kernel_rfl
 obtain ⟨i,hi,hz⟩:=Option.map_eq_some_iff.1 h
 simp only [Prod.mk.injEq]at hz
 exact ⟨i,hi,hz.1,hz.2.1,hz.2.2⟩
theorem run_build_str2 (W:World) (a b:ByteArray):(Instr.buildSlice 53 2 #[(0, .string a),(1, .string b)]).run Tryz.prog W= .ok (.slice (some ⟨W.heap.size,0,none⟩) 2 2) (W.alloc (.cells #[.string a, .string b] 9)):=by
 obtain ⟨i,hi,hz,hsz,_⟩:=jo_infoStr
 refine run_buildSlice (P:=Tryz.prog) W 53 9 2 #[(0, .string a),(1, .string b)] #[.string a, .string b] i _ Tryz.underlying53 hi hz (by rw [hsz];decide) (by rw [hsz];decide) ?_
 rw [hsz]
 rw [show Array.range (2*1)=#[0,1]from by decide]
 simp [Instr.fill,Value.cells]
theorem StrsAt.new2 (w:World) (a b:List UInt8):StrsAt (w.alloc (.cells #[.string (sb a), .string (sb b)] 9)) (some ⟨w.heap.size,0,none⟩) 2 2 [a,b]:=by
 have r:=Row.new w 9 [.string (sb a), .string (sb b)]
 exact ⟨rfl,Nat.le_refl _,fun _=> ⟨_,0,rfl,r.lt,r.range 0 _ (fun j v hj=> by rw [Nat.zero_add];exact hj)⟩⟩
theorem SlsAt.new2 (w:World) {a b:Addr} {n m c d:Nat} {L M:List V} (hL:ValsAt w (some a) n c L) (hM:ValsAt w (some b) m d M):SlsAt (w.alloc (.cells #[.slice (some a) n c, .slice (some b) m d] 26)) (some ⟨w.heap.size,0,none⟩) 2 2 [⟨some a,c,L⟩,⟨some b,d,M⟩]:=by
 have h1:=hL.len
 have h2:=hM.len
 refine SlsAt.new w [⟨some a,c,L⟩,⟨some b,d,M⟩] (fun p hp=> ?_) _ (by rw [List.map_cons,List.map_cons,List.map_nil];unfold Pc.enc;dsimp only;rw [h1,h2]) 2 rfl
 simp only [List.mem_cons,List.not_mem_nil,or_false]at hp
 rcases hp with rfl | rfl
 ·dsimp only;rw [h1];exact hL
 ·dsimp only;rw [h2];exact hM
end Go.Proofs.YtgmangikcfakgaaGreatDoor
namespace Go.Proofs.YtgmangikcfakgaaGreatDoor
open Go.RowKit Sh Jt Js
end Go.Proofs.YtgmangikcfakgaaGreatDoor
namespace Go.Proofs.YtgmangikcfakgaaGreatDoor
open Go.RowKit Sh Jt Js Jo
theorem short_more {m k:Nat} {L:List V} (h:Short m L) (hm:m≤k):Short k L:=fun v hv=> ⟨Nat.le_trans (h v hv).1 hm,Nat.le_trans (h v hv).2 hm⟩
theorem own_any {f:FuncId} {args:Array Value} {W:World} {L:List V} {n:Nat} (hn:L.length=n) (h:Calls Tryz.prog f args W fun e w'=> ∃v',e= .returned v'∧Hid (OwnVals w' W.heap.size v' L∧Below W.heap.size W w')):
  Calls Tryz.prog f args W fun e w'=> ∃A k,e= .returned (.slice A n k)∧Hid (OwnVals w' W.heap.size (.slice A n k) L∧ValsAt w' A n k L∧Below W.heap.size W w'):=by
 subst hn
 refine h.mono ?_
 rintro e w' ⟨v',rfl,H⟩
 obtain ⟨A,k,rfl,hv, -⟩:=H.out.1.vals
 exact ⟨A,k,rfl,Lib.hid ⟨H.out.1,hv,H.out.2⟩⟩
namespace Jo
theorem short_bump {m:Nat} {L:List V} (h:Short m L) (c:Int):Short m (bump c L):=by
 match L,h with
 | [],_=> exact fun v hv=> by cases hv
 | v::r,h=>
  intro x hx
  rcases List.mem_cons.1 hx with rfl | hx
  ·exact h v List.mem_cons_self
  ·exact h x (List.mem_cons_of_mem _ hx)
theorem short_setF {m:Nat} {L M:List V} {key:List UInt8} (h:Short m L) (h2:Short m M) (hk:key.length≤m):Short m (setF L key M):=by
 unfold setF
 cases getA L 0 key with
 | none=> exact short_app (short_bump h 1) (short_named h2 hk)
 | some p=> exact short_app (short_take h p) (short_app (short_named h2 hk) (short_drop h _))
theorem short_setA {m:Nat} {L M:List V} {key:List UInt8} (h:Short m L) (h2:Short m M) (hk:key.length≤m):Short m (setA L key M):=by
 unfold setA fineF
 split
 ·split
  ·exact short_setF h h2 hk
  ·exact fun v hv=> by cases hv
 ·exact fun v hv=> by cases hv
theorem short_dropA {m:Nat} {L:List V} {key:List UInt8} (h:Short m L):Short m (dropA L key):=by
 unfold dropA
 split
 ·cases getA L 0 key with
  | none=> exact h
  | some p=> exact short_bump (short_app (short_take h p) (short_drop h _)) _
 ·exact fun v hv=> by cases hv
theorem cutA_len (L:List V) (z:Int):(cutA L z).length≤L.length:=by
 unfold cutA
 split
 ·rw [named_len,List.length_take,List.length_drop]
  omega
 ·exact Nat.zero_le _
end Jo
end Go.Proofs.YtgmangikcfakgaaGreatDoor
