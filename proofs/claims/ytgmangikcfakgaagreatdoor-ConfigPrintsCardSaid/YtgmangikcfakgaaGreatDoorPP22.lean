import Derived.Test.YtgmangikcfakgaaGreatDoorPP21
import Derived.Test.YtgmangikcfakgaaGreatDoorPP8
import Derived.BigQuiet
import Derived.Test.YtgmangikcfakgaaGreatDoorPP5
namespace Go.Proofs.YtgmangikcfakgaaGreatDoor
open Go.RowKit Sh Jt Js Jo
namespace Jo
theorem offs_next (P:List (List V)) {j:Nat} (h:j < P.length):offs P (j+1)=offs P j+P[j].length:=by
 unfold offs
 rw [List.take_succ_eq_append_getElem h,List.flatten_append,List.length_append]
 simp
theorem offs_le (P:List (List V)) (j:Nat):offs P j≤P.flatten.length:=by
 unfold offs
 conv=> rhs;rw [←List.take_append_drop j P,List.flatten_append,List.length_append]
 omega
theorem list_some {P:List (List V)} (h:(listA P).length≠0):listA P=listF P∧P.all rightPF=true:=by
 unfold listA fineF at h ⊢
 split at h
 next hP=>
  rw [if_pos hP]
  split at h
  next hr=> rw [if_pos hr];exact ⟨rfl,hP⟩
  next hr=> exact absurd rfl h
 next hP=> exact absurd rfl h
end Jo
set_option maxRecDepth 100000 in
set_option maxHeartbeats 4000000 in
theorem jo_object (w:World) (A:Option Addr) (n c:Nat) (ks:List (List UInt8)) (hK:StrsAt w A n c ks) (hkn:n≤4000) (hks:∀k∈ks,k.length≤1000000000) (A2:Option Addr) (n2 c2:Nat) (Q:List Pc) (hQ:SlsAt w A2 n2 c2 Q) (hn:n2≤4000) (hs:∀p∈Q,Short 1000000000 p.row) (hl:(rowsOf Q).flatten.length≤4000) (hT:TabOk w):
  Calls Tryz.prog 19 #[.slice A n c, .slice A2 n2 c2] w fun e w'=> ∃v',e= .returned v'∧Hid (OwnVals w' w.heap.size v' (objA ks (rowsOf Q))∧Below w.heap.size w w'):=by
 have HLI:=Lib.hid (jo_list w A2 n2 c2 Q hQ hn hs hl hT)
 have hlen:=hK.len
 have hlen2:=hQ.len
 obtain ⟨RV,hRV⟩:∃RV,RV=objA ks (rowsOf Q):=⟨_,rfl⟩
 rw [←hRV]
 by_cases he:(listA (rowsOf Q)).length=0
 ·have he2:=List.eq_nil_of_length_eq_zero he
  rw [he2]at HLI
  have HX:Hid (RV=[]):=Lib.hid (by rw [hRV,list_none he2])
  clear hRV he he2 hK hQ hs hl hT hks
  go_enter Tryz.func19,Tryz.ntmps19
  go_wp2_with fail
  refine HLI.out.mono ?_
  rintro e w2 ⟨v2,rfl,H2⟩
  obtain ⟨A3,c3,rfl, -⟩:=H2.out.1.vals
  change Hid (OwnVals _ _ (.slice A3 0 c3) _∧_)at H2
  clear HLI
  go_wp2_with fail
  go_ret
  exact ⟨_,rfl,Lib.hid ⟨by rw [HX.out];exact OwnVals.nil _ _,H2.out.2⟩⟩
 ·obtain ⟨hlf,hall⟩:=list_some he
  rw [hlf]at HLI
  have hPl:(rowsOf Q).length=n2:=by unfold rowsOf;rw [List.length_map];exact hlen2
  have hll:(listF (rowsOf Q)).length=1+(rowsOf Q).flatten.length:=by unfold listF;rw [List.length_cons];omega
  obtain ⟨N,hN⟩:∃N,N=1+(rowsOf Q).flatten.length:=⟨_,rfl⟩
  rw [←hN]at hll
  have HLL:=Lib.hid hll
  have hN0:0 < N∧N≤4001:=by omega
  have hN0i:(0:Int) < (N:Int):=by omega
  have hNb:((N:Int)==0)=false:=beq_eq_false_iff_ne.2 (by omega)
  by_cases hnn:n=n2
  ·subst hnn
   have HRV:Hid (RV=fineF (halfO ks (rowsOf Q) n)):=Lib.hid (by
    rw [hRV]
    unfold objA
    rw [if_pos ⟨hall,by rw [hlen,hPl]⟩,←half_all (by rw [hlen,hPl]),hPl])
   have HSY:Hid (Short 1000000000 (halfO ks (rowsOf Q) n)):=Lib.hid (by
    have h:=half_short (P:=rowsOf Q) (ks:=ks) (m:=1000000000) (fun p hp=> by
     obtain ⟨q,hq,rfl⟩:=List.mem_map.1 hp
     exact hs q hq) hks
    rw [←half_all (by rw [hlen,hPl]),hPl]at h
    exact h)
   have HHL:=Lib.hid (fun j=> show (halfO ks (rowsOf Q) j).length=N from by rw [half_len (by rw [hlen,hPl]),hN])
   have HNX:=Lib.hid (fun (j:Nat) (hj:j < Q.length) (hjk:j < ks.length)=> show (rowsOf Q).length=n→keyAt (1+offs (rowsOf Q) j) ks[j] (halfO ks (rowsOf Q) j)=halfO ks (rowsOf Q) (j+1)∧offs (rowsOf Q) (j+1)=offs (rowsOf Q) j+Q[j].row.length∧0 < Q[j].row.length∧1+offs (rowsOf Q) j+Q[j].row.length≤N from fun hpl=> by
    have hj2:j < (rowsOf Q).length:=by omega
    have hg:(rowsOf Q)[j]=Q[j].row:=by simp [rowsOf]
    have hp:0 < Q[j].row.length:=by
     have h:=(right_end (List.all_eq_true.1 hall _ (List.getElem_mem hj2))).2.1
     rw [hg]at h
     exact h
    have h1:=offs_next (rowsOf Q) hj2
    have h2:=offs_le (rowsOf Q) (j+1)
    rw [hg]at h1
    exact ⟨half_next (by rw [hlen,hPl]) hj2 (by rw [hg];exact hp),h1,hp,by omega⟩)
   have HK:=Lib.hid hK
   have HQ:=Lib.hid hQ
   have HT:=Lib.hid hT
   have HPL:=Lib.hid hPl
   have hn9:(n:Int)≤4000:=by omega
   have hbn:((n:Int) !=(n:Int))=false:=by simp
   have HLF:Hid (listF (rowsOf Q)=⟨5,[],[],n⟩::(rowsOf Q).flatten):=Lib.hid (by unfold listF;rw [hPl])
   have HH0:Hid (halfO ks (rowsOf Q) 0=⟨6,[],[],n⟩::(rowsOf Q).flatten):=Lib.hid (by rw [half_zero,hPl])
   clear hRV hK hQ hs hl hT hks he hlf hall hPl hll hN
   go_enter Tryz.func19,Tryz.ntmps19
   go_wp2_with fail
   refine HLI.out.mono ?_
   rintro e w2 ⟨v2,rfl,H2⟩
   clear HLI
   have hg2:=H2.out.1.got (by rw [HLL.out];omega)
   rw [HLL.out]at hg2
   obtain ⟨g2,k2,rfl,hg2b,hg2l,hk2⟩:=hg2
   have f0:=H2.out.1.unfrozen 0
   have hL0:0 < (listF (rowsOf Q)).length:=by rw [HLL.out];omega
   obtain ⟨x0,y0⟩:∃x,w2.cell? ⟨g2,0,none⟩=some x:=by
    obtain ⟨y0,_,_,_⟩:=H2.out.1.at_.1.cells hL0
    rw [Nat.zero_mul,Nat.zero_add]at y0
    exact ⟨_,y0⟩
   have hs1:=H2.out.1
   rw [HLF.out]at hs1
   have hs2:=hs1.set (i:=0) (j:=0) (by simp) (by decide) (x:= .int .i64 6) (v:=⟨6,[],[],n⟩) rfl
   rw [List.set_cons_zero,←HH0.out,Nat.zero_mul,Nat.zero_add]at hs2
   have HF:=Lib.hid (And.intro hs2 (H2.out.2.trans (hs1.setBelow 0 (.int .i64 6))))
   clear hs1 hs2 H2 HLL HLF hL0
   go_wp2_with fail
   go_loopg [6,26] n (fun g v6 v26 wx=> ∃j y:Nat,v6= .int .i64 (y:Int)∧v26= .int .i64 (j:Int)∧j+g=n∧y≤4001∧Hid (y=1+offs (rowsOf Q) j)∧Hid (OwnVals wx w.heap.size (.slice (some ⟨g2,0,none⟩) N k2) (halfO ks (rowsOf Q) j)∧Below w.heap.size w wx))
   case atStart=> exact ⟨0,1,rfl,rfl,by omega,by omega,Lib.hid rfl,HF⟩
   case round=>
    clear HF f0 y0
    obtain ⟨j,y,rfl,rfl,hjg,hy9,HY,HH⟩:=hrel
    cases gk with
    | zero=>
     obtain rfl:j=n:=by omega
     have hge:¬(j:Int) < (j:Int):=by omega
     have HI:=Lib.hid (jo_ifRight wr (some ⟨g2,0,none⟩) N k2 _ HH.out.1.at_.1 (by omega) HSY.out (HT.out.below HH.out.2))
     clear HSY HY HNX HHL
     unfold fineF at HRV
     generalize rightPF (halfO ks (rowsOf Q) j)=RY at*
     have HLE2:=Lib.hid HH.out.2.size
     cases RY with
     | true=>
      go_wp2_with fail
      refine HI.out.mono ?_
      rintro e w7 ⟨rfl,HB8⟩
      clear HI
      go_wp2_with fail
      go_ret
      exact ⟨_,rfl,Lib.hid ⟨by rw [HRV.out];exact HH.out.1.below HB8.out,HH.out.2.trans (HB8.out.mono HLE2.out)⟩⟩
     | false=>
      go_wp2_with fail
      refine HI.out.mono ?_
      rintro e w7 ⟨rfl,HB8⟩
      clear HI
      go_wp2_with fail
      go_ret
      exact ⟨_,rfl,Lib.hid ⟨by rw [HRV.out];exact OwnVals.nil _ _,HH.out.2.trans (HB8.out.mono HLE2.out)⟩⟩
    | succ g=>
     have hj:j < Q.length:=by omega
     have hjk:j < ks.length:=by omega
     obtain ⟨m1,m2,m3,m4⟩:=HNX.out j hj hjk HPL.out
     obtain ⟨b,o,rfl,cc⟩:=(HQ.out.below HH.out.2).cell hj
     obtain ⟨b1,o1,rfl,ck⟩:=(HK.out.below HH.out.2).cell hjk
     have HY2:=Lib.hid (show y+Q[j].row.length=1+offs (rowsOf Q) (j+1)by rw [m2,HY.out];omega)
     have hyN:y < N:=by have:=HY.out;omega
     have hyNi:(y:Int) < (N:Int):=by omega
     have hy2:y+Q[j].row.length≤N:=by have:=HY.out;omega
     have hyl:y < (halfO ks (rowsOf Q) j).length:=by rw [HHL.out];exact hyN
     have fz:=HH.out.1.unfrozen (y*4+1)
     obtain ⟨x1,y1⟩:∃x,wr.cell? ⟨g2,y*4+1,none⟩=some x:=by
      obtain ⟨_,y1,_,_⟩:=HH.out.1.at_.1.cells hyl
      rw [Nat.zero_add]at y1
      exact ⟨_,y1⟩
     have hs1:=HH.out.1.set (i:=y) (j:=1) hyl (by decide) (x:= .string (sb ks[j])) (v:=⟨(halfO ks (rowsOf Q) j)[y].kind,ks[j],(halfO ks (rowsOf Q) j)[y].text,(halfO ks (rowsOf Q) j)[y].count⟩) rfl
     rw [key_set _ hyl,HY.out,m1,←HY.out]at hs1
     have HF:=Lib.hid (And.intro hs1 (HH.out.2.trans (HH.out.1.setBelow (y*4+1) (.string (sb ks[j])))))
     have hjn:(j:Int) < (n:Int):=by omega
     clear hs1 m1 m2 m3 m4 HH hyl HY
     unfold Pc.enc at cc
     generalize Q[j]=p at*
     obtain ⟨pa,pc,prow⟩:=p
     dsimp only at*
     generalize prow.length=pl at*
     generalize sb ks[j]=KK at*
     go_wp2_with fail
     go_roundg g
     case measure=> omega
     case rel=> exact ⟨j+1,y+pl,by go_num,by go_num,by omega,by omega,HY2,HF⟩
  ·have hbn:((n:Int) !=(n2:Int))=true:=bne_iff_ne.2 (by omega)
   have HX:Hid (RV=[]):=Lib.hid (by
    rw [hRV]
    unfold objA
    rw [if_neg (fun h=> hnn (by have:=h.2;omega))])
   clear hRV hK hQ hs hl hT hks he hlf hall hPl hll hN hnn
   go_enter Tryz.func19,Tryz.ntmps19
   go_wp2_with fail
   refine HLI.out.mono ?_
   rintro e w2 ⟨v2,rfl,H2⟩
   have hg2:=H2.out.1.got (by rw [HLL.out];omega)
   rw [HLL.out]at hg2
   obtain ⟨g2,k2,rfl, -⟩:=hg2
   clear HLI
   go_wp2_with fail
   go_ret
   exact ⟨_,rfl,Lib.hid ⟨by rw [HX.out];exact OwnVals.nil _ _,H2.out.2⟩⟩
end Go.Proofs.YtgmangikcfakgaaGreatDoor
namespace Go.Proofs.YtgmangikcfakgaaGreatDoor
open Go.RowKit Sh Jt Js
theorem js_str_eq (a b:List UInt8):((sb a).toList==(sb b).toList)=(a==b):=by rw [sb_list,sb_list]
set_option maxRecDepth 100000 in
theorem js_eq (W:World) (k1 k2 n1 n2:Int) (a b c d:ByteArray):(Op.equalIn 10000 72 (.agg #[.int .i64 k1, .string a, .string b, .int .i64 n1]) (.agg #[.int .i64 k2, .string c, .string d, .int .i64 n2])).run Tryz.prog W= .ok (((k1==k2) && (a.toList==c.toList)) && ((b.toList==d.toList) && (n1==n2))) W:=by
 cases h0:(k1==k2) <;> cases h1:(a.toList==c.toList) <;> cases h2:(b.toList==d.toList) <;> cases h3:(n1==n2) <;> go_simp
set_option maxRecDepth 100000 in
set_option maxHeartbeats 4000000 in
theorem js_same (w:World) (A1 A2:Option Addr) (n1 c1 n2 c2:Nat) (L M:List V) (hL:ValsAt w A1 n1 c1 L) (hM:ValsAt w A2 n2 c2 M) (hn:n1≤140737488351232) (hn2:n2≤140737488351232):
  Calls Tryz.prog 23 #[.slice A1 n1 c1, .slice A2 n2 c2] w fun e w'=> e= .returned (.bool (decide (L=M)))∧∃m,w'=w.drewN m:=by
 have HL:=Lib.hid hL
 have HM:=Lib.hid hM
 have hlen:=hL.len
 have hlen2:=hM.len
 clear hL hM
 by_cases hne:n1=n2
 ·subst hne
  go_enter Tryz.func23,Tryz.ntmps23
  go_wp2_with fail
  go_loopw [5] (fun i wr=> ∃k m:Nat,k≤n1∧i= .int .i64 k∧Hid (L.take k=M.take k)∧wr=w.drewN m) (fun i _=> n1 - (intOf i).toNat)
  case atStart=> exact ⟨0,0,Nat.zero_le _,rfl,Lib.hid rfl,rfl⟩
  case round=>
   obtain ⟨k,m,hk,rfl,HO,rfl⟩:=hrel
   by_cases hlt:k < n1
   ·obtain ⟨b,o,rfl,hbl,_⟩:=HL.out.at_ (by omega)
    obtain ⟨b2,o2,rfl,hbl2,_⟩:=HM.out.at_ (by omega)
    have hkl:k < L.length:=by omega
    have hkm:k < M.length:=by omega
    obtain ⟨x0,x1,x2,x3⟩:=HL.out.cells hkl
    obtain ⟨y0,y1,y2,y3⟩:=HM.out.cells hkm
    have hlt':(k:Int) < (n1:Int):=by omega
    have q1:=js_str_eq L[k].key M[k].key
    have q2:=js_str_eq L[k].text M[k].text
    have HT:=Lib.hid (And.intro (List.take_succ_eq_append_getElem hkl) (List.take_succ_eq_append_getElem hkm))
    have HG:=Lib.hid (show L=M→L[k]=M[k]from fun h=> by subst h;rfl)
    generalize L[k]=p at*
    generalize M[k]=q at*
    by_cases he:p=q
    ·subst he
     have HS:=Lib.hid (show L.take (k+1)=M.take (k+1)by rw [HT.out.1,HT.out.2,HO.out])
     generalize sb p.key=s1 at*
     generalize sb p.text=s2 at*
     generalize p.kind=s3 at*
     generalize p.count=s4 at*
     have hq:∀W,(Op.equalIn 10000 72 (.agg #[.int .i64 s3, .string s1, .string s2, .int .i64 s4]) (.agg #[.int .i64 s3, .string s1, .string s2, .int .i64 s4])).run Tryz.prog W= .ok true W:=fun W=> by
      have:=js_eq W s3 s3 s4 s4 s1 s2 s1 s2
      simpa using this
     clear q1 q2 HT HG
     go_upto_region 6 with fail
     go_quiet (fail)
     rw [World.drewN_drewN]
     go_wp2_with fail
     go_roundw
     case rel=> exact ⟨k+1,m+nq,by omega,by go_num,HS,rfl⟩
     case measure=> simp [intOf] <;> omega
    ·have HN:=Lib.hid (show decide (L=M)=false from decide_eq_false fun h=> he (HG.out h))
     have hz:(((p.kind==q.kind) && ((sb p.key).toList==(sb q.key).toList)) && (((sb p.text).toList==(sb q.text).toList) && (p.count==q.count)))=false:=by
      rw [q1,q2]
      cases h0:(p.kind==q.kind)with
      | false=> rfl
      | true=>
       cases h1:(p.key==q.key)with
       | false=> rfl
       | true=>
        cases h2:(p.text==q.text)with
        | false=> rfl
        | true=>
         cases h3:(p.count==q.count)with
         | false=> rfl
         | true=>
          refine absurd ?_ he
          obtain ⟨a1,a2,a3,a4⟩:=p
          obtain ⟨b1,b2,b3,b4⟩:=q
          obtain rfl:=LawfulBEq.eq_of_beq h0
          obtain rfl:=LawfulBEq.eq_of_beq h1
          obtain rfl:=LawfulBEq.eq_of_beq h2
          obtain rfl:=LawfulBEq.eq_of_beq h3
          rfl
     have hq:∀W,(Op.equalIn 10000 72 (.agg #[.int .i64 p.kind, .string (sb p.key), .string (sb p.text), .int .i64 p.count]) (.agg #[.int .i64 q.kind, .string (sb q.key), .string (sb q.text), .int .i64 q.count])).run Tryz.prog W= .ok false W:=fun W=> by
      rw [js_eq,hz]
     clear q1 q2 HT HG hz
     generalize sb p.key=s1 at*
     generalize sb p.text=s2 at*
     generalize p.kind=s3 at*
     generalize p.count=s4 at*
     generalize sb q.key=s5 at*
     generalize sb q.text=s6 at*
     generalize q.kind=s7 at*
     generalize q.count=s8 at*
     go_upto_region 6 with fail
     go_quiet (fail)
     rw [World.drewN_drewN]
     go_wp2_with fail
     go_ret
     exact ⟨by rw [HN.out];rfl,_,rfl⟩
   ·obtain rfl:k=n1:=by omega
    have HN:Hid (decide (L=M)=true):=Lib.hid (decide_eq_true (by
     have h:=HO.out
     rwa [List.take_of_length_le (by omega),List.take_of_length_le (by omega)]at h))
    have hge:¬(k:Int) < (k:Int):=by omega
    go_wp2_with fail
    go_ret
    exact ⟨by rw [HN.out];rfl,_,rfl⟩
 ·have HN:=Lib.hid (show decide (L=M)=false from decide_eq_false fun h=> hne (by rw [←hlen,←hlen2,h]))
  have hb:((n1:Int) !=(n2:Int))=true:=bne_iff_ne.2 (by omega)
  clear hne
  go_enter Tryz.func23,Tryz.ntmps23
  go_wp2_with fail
  go_ret
  exact ⟨by rw [HN.out];rfl,0,rfl⟩
end Go.Proofs.YtgmangikcfakgaaGreatDoor
namespace Go.Proofs.YtgmangikcfakgaaGreatDoor
open Go.RowKit Sh Jt Js Jo
theorem own_form {f:FuncId} {args:Array Value} {W:World} {L:List V} {n:Nat} (hn:L.length=n) (h0:0 < n) (h:Calls Tryz.prog f args W fun e w'=> ∃v',e= .returned v'∧Hid (OwnVals w' W.heap.size v' L∧Below W.heap.size W w')):
  Calls Tryz.prog f args W fun e w'=> ∃g k,e= .returned (.slice (some ⟨g,0,none⟩) n k)∧Hid (OwnVals w' W.heap.size (.slice (some ⟨g,0,none⟩) n k) L∧ValsAt w' (some ⟨g,0,none⟩) n k L∧Below W.heap.size W w'):=by
 subst hn
 refine h.mono ?_
 rintro e w' ⟨v',rfl,H⟩
 obtain ⟨g,k,rfl, -⟩:=H.out.1.got h0
 exact ⟨g,k,rfl,Lib.hid ⟨H.out.1,H.out.1.at_.1,H.out.2⟩⟩
theorem jo_infoStr:∃i,Tryz.prog.info? 9=some i∧i.zero=some (.string ⟨#[]⟩)∧i.size=1∧i.bytes=16:=by
 have h:(Tryz.prog.info? 9).map (fun i=> (i.zero,i.size,i.bytes))=some (some (.string ⟨#[]⟩),1,16):=by kernel_rfl
 obtain ⟨i,hi,hz⟩:=Option.map_eq_some_iff.1 h
 simp only [Prod.mk.injEq]at hz
 exact ⟨i,hi,hz.1,hz.2.1,hz.2.2⟩
theorem run_build_str2 (W:World) (a b:ByteArray):(Instr.buildSlice 53 2 #[(0, .string a),(1, .string b)]).run Tryz.prog W= .ok (.slice (some ⟨W.heap.size,0,none⟩) 2 2) (W.alloc (.cells #[.string a, .string b] 9)):=by
 obtain ⟨i,hi,hz,hsz,_⟩:=jo_infoStr
 refine run_buildSlice (P:=Tryz.prog) W 53 9 2 #[(0, .string a),(1, .string b)] #[.string a, .string b] i _ Tryz.underlying53 hi hz (by rw [hsz];decide) (by rw [hsz];decide) ?_
 rw [hsz]
 rw [show Array.range (2*1)=#[0,1]from by decide]
 simp [Instr.fill,Value.cells]
theorem StrsAt.new2 (w:World) (a b:List UInt8):StrsAt (w.alloc (.cells #[.string (sb a), .string (sb b)] 9)) (some ⟨w.heap.size,0,none⟩) 2 2 [a,b]:=by
 have r:=Row.new w 9 [.string (sb a), .string (sb b)]
 exact ⟨rfl,Nat.le_refl _,fun _=> ⟨_,0,rfl,r.lt,r.range 0 _ (fun j v hj=> by rw [Nat.zero_add];exact hj)⟩⟩
theorem SlsAt.new2 (w:World) {a b:Addr} {n m c d:Nat} {L M:List V} (hL:ValsAt w (some a) n c L) (hM:ValsAt w (some b) m d M):SlsAt (w.alloc (.cells #[.slice (some a) n c, .slice (some b) m d] 26)) (some ⟨w.heap.size,0,none⟩) 2 2 [⟨some a,c,L⟩,⟨some b,d,M⟩]:=by
 have h1:=hL.len
 have h2:=hM.len
 refine SlsAt.new w [⟨some a,c,L⟩,⟨some b,d,M⟩] (fun p hp=> ?_) _ (by rw [List.map_cons,List.map_cons,List.map_nil];unfold Pc.enc;dsimp only;rw [h1,h2]) 2 rfl
 simp only [List.mem_cons,List.not_mem_nil,or_false]at hp
 rcases hp with rfl | rfl
 ·dsimp only;rw [h1];exact hL
 ·dsimp only;rw [h2];exact hM
end Go.Proofs.YtgmangikcfakgaaGreatDoor
namespace Go.Proofs.YtgmangikcfakgaaGreatDoor
open Go.RowKit Sh Jt Js
def sumV (L:List V):Nat:=(L.map fun v=> v.key.length+v.text.length).sum
theorem sumV_take (L:List V) (k:Nat) (h:k < L.length):sumV (L.take (k+1))=sumV (L.take k)+(L[k].key.length+L[k].text.length):=by
 unfold sumV
 rw [List.take_succ_eq_append_getElem h,List.map_append,List.sum_append]
 simp
theorem sumV_cons (v:V) (L:List V):sumV (v::L)=v.key.length+v.text.length+sumV L:=by
 unfold sumV
 rw [List.map_cons,List.sum_cons]
theorem sumV_mem:∀ {L:List V} {v:V},v∈L→v.key.length+v.text.length≤sumV L
 | a::r,v,h=> by
  rw [sumV_cons]
  rcases List.mem_cons.1 h with rfl | h
  ·omega
  ·have:=sumV_mem h
   omega
theorem few_wrap {x:Int} (h: -9223372036854775808≤x∧x≤9223372036854775807):wrap64 x=x:=by unfold wrap64;omega
theorem few_step (a b c:Nat) (h:a+(b+c)≤22517998136852480):wrap64 (wrap64 ((a:Int)+(b:Int))+(c:Int))=((a+(b+c):Nat):Int):=by
 rw [few_wrap (x:=(a:Int)+(b:Int)) (by omega),few_wrap (by omega)]
 omega
def fewF (L:List V):Bool:=decide (L.length≤80) && decide (sumV L≤3000)
def Fits (L:List V):Prop:=∀v∈L,v.key.length≤140737488355328∧v.text.length≤140737488355328
theorem sumV_fits:∀(L:List V),Fits L→sumV L≤L.length*281474976710656
 | [],_=> Nat.le_refl _
 | v::r,h=> by
  have h1:=sumV_fits r (fun x hx=> h x (List.mem_cons_of_mem _ hx))
  have h2:=h v List.mem_cons_self
  rw [sumV_cons,List.length_cons]
  omega
set_option maxRecDepth 100000 in
set_option maxHeartbeats 4000000 in
theorem js_few (w:World) (A:Option Addr) (n c:Nat) (L:List V) (hL:ValsAt w A n c L) (hn:n≤140737488351232) (hs:Fits L):
  Calls Tryz.prog 20 #[.slice A n c] w fun e w'=> e= .returned (.bool (fewF L))∧∃m,w'=w.drewN m:=by
 have HL:=Lib.hid hL
 have hlen:=hL.len
 have HS:=Lib.hid hs
 obtain ⟨RV,hRV⟩:∃RV,RV=fewF L:=⟨_,rfl⟩
 rw [←hRV]
 have HRV:=Lib.hid hRV
 clear hL hRV hs
 go_enter Tryz.func20,Tryz.ntmps20
 go_wp2_with fail
 go_loopg [3,4] n (fun g v3 v4 wr=> ∃(k m:Nat) (x:Int),v4= .int .i64 (k:Int)∧v3= .int .i64 x∧k+g=n∧wr=w.drewN m∧Hid (n≤80→x=(sumV (L.take k):Nat)))
 case atStart=> exact ⟨0,0,0,rfl,rfl,by omega,rfl,Lib.hid (fun _=> rfl)⟩
 case round=>
  obtain ⟨k,m,x,rfl,rfl,hkg,rfl,HX⟩:=hrel
  cases gk with
  | zero=>
   obtain rfl:k=n:=by omega
   have hge:¬(k:Int) < (k:Int):=by omega
   have hall:L.take k=L:=List.take_of_length_le (by omega)
   by_cases h8:k≤80
   ·have h8':(k:Int)≤80:=by omega
    have hd8:decide ((k:Int)≤80)=true:=decide_eq_true h8'
    have hx:=HX.out h8
    rw [hall]at hx
    have HRR:=Lib.hid (show decide (x≤3000)=RV from by
     rw [HRV.out,hx]
     unfold fewF
     rw [hlen,decide_eq_true h8,Bool.true_and]
     by_cases h3:sumV L≤3000
     ·rw [decide_eq_true h3,decide_eq_true (by omega)]
     ·rw [decide_eq_false h3,decide_eq_false (by omega)])
    clear HX hall hx
    go_wp2_with fail
    go_ret
    exact ⟨by rw [←HRR.out];rfl,_,rfl⟩
   ·have h8':¬(k:Int)≤80:=by omega
    have hd8:decide ((k:Int)≤80)=false:=decide_eq_false h8'
    have HRR:=Lib.hid (show RV=false from by
     rw [HRV.out]
     unfold fewF
     rw [hlen,decide_eq_false h8,Bool.false_and])
    clear HX hall
    go_wp2_with fail
    go_ret
    exact ⟨by rw [HRR.out];rfl,_,rfl⟩
  | succ g=>
   obtain ⟨b,o,rfl,hbl,_⟩:=HL.out.at_ (by omega)
   have hkl:k < L.length:=by omega
   obtain ⟨x0,x1,x2,x3⟩:=HL.out.cells hkl
   have hkn:(k:Int) < (n:Int):=by omega
   have HSM:=Lib.hid (sumV_take L k hkl)
   have HB:=Lib.hid (show n≤80→sumV (L.take (k+1))≤22517998136852480 from fun h80=> by
    have h1:=sumV_fits (L.take (k+1)) (fun v hv=> HS.out v (List.mem_of_mem_take hv))
    have h2:(L.take (k+1)).length≤80:=by rw [List.length_take];omega
    omega)
   have hz1:=sb_size L[k].key
   have hz2:=sb_size L[k].text
   generalize L[k]=p at*
   generalize sb p.key=s1 at*
   generalize sb p.text=s2 at*
   generalize p.kind=s3 at*
   generalize p.count=s4 at*
   go_upto_region 5 with fail
   go_quiet (fail)
   rw [World.drewN_drewN]
   go_wp2_with fail
   go_roundg g
   case measure=> omega
   case rel=>
    refine ⟨k+1,m+nq,_,by go_num,rfl,by omega,rfl,Lib.hid (fun h80=> ?_)⟩
    have h1:=HX.out h80
    have h2:=HB.out h80
    rw [HSM.out]at h2 ⊢
    rw [h1]
    exact few_step _ _ _ h2
end Go.Proofs.YtgmangikcfakgaaGreatDoor
namespace Go.Proofs.YtgmangikcfakgaaGreatDoor
open Go.RowKit Sh Jt Js Jo
theorem few_short {L:List V} (h:fewF L=true):L.length≤80∧Short 3000 L:=by
 unfold fewF at h
 rw [Bool.and_eq_true,decide_eq_true_eq,decide_eq_true_eq]at h
 refine ⟨h.1,fun v hv=> ?_⟩
 have:=sumV_mem hv
 omega
theorem short_more {m k:Nat} {L:List V} (h:Short m L) (hm:m≤k):Short k L:=fun v hv=> ⟨Nat.le_trans (h v hv).1 hm,Nat.le_trans (h v hv).2 hm⟩
theorem own_any {f:FuncId} {args:Array Value} {W:World} {L:List V} {n:Nat} (hn:L.length=n) (h:Calls Tryz.prog f args W fun e w'=> ∃v',e= .returned v'∧Hid (OwnVals w' W.heap.size v' L∧Below W.heap.size W w')):
  Calls Tryz.prog f args W fun e w'=> ∃A k,e= .returned (.slice A n k)∧Hid (OwnVals w' W.heap.size (.slice A n k) L∧ValsAt w' A n k L∧Below W.heap.size W w'):=by
 subst hn
 refine h.mono ?_
 rintro e w' ⟨v',rfl,H⟩
 obtain ⟨A,k,rfl,hv, -⟩:=H.out.1.vals
 exact ⟨A,k,rfl,Lib.hid ⟨H.out.1,hv,H.out.2⟩⟩
namespace Jo
theorem short_bump {m:Nat} {L:List V} (h:Short m L) (c:Int):Short m (bump c L):=by
 match L,h with
 | [],_=> exact fun v hv=> by cases hv
 | v::r,h=>
  intro x hx
  rcases List.mem_cons.1 hx with rfl | hx
  ·exact h v List.mem_cons_self
  ·exact h x (List.mem_cons_of_mem _ hx)
theorem short_setF {m:Nat} {L M:List V} {key:List UInt8} (h:Short m L) (h2:Short m M) (hk:key.length≤m):Short m (setF L key M):=by
 unfold setF
 cases getA L 0 key with
 | none=> exact short_app (short_bump h 1) (short_named h2 hk)
 | some p=> exact short_app (short_take h p) (short_app (short_named h2 hk) (short_drop h _))
theorem short_setA {m:Nat} {L M:List V} {key:List UInt8} (h:Short m L) (h2:Short m M) (hk:key.length≤m):Short m (setA L key M):=by
 unfold setA fineF
 split
 ·split
  ·exact short_setF h h2 hk
  ·exact fun v hv=> by cases hv
 ·exact fun v hv=> by cases hv
theorem short_dropA {m:Nat} {L:List V} {key:List UInt8} (h:Short m L):Short m (dropA L key):=by
 unfold dropA
 split
 ·cases getA L 0 key with
  | none=> exact h
  | some p=> exact short_bump (short_app (short_take h p) (short_drop h _)) _
 ·exact fun v hv=> by cases hv
theorem cutA_len (L:List V) (z:Int):(cutA L z).length≤L.length:=by
 unfold cutA
 split
 ·rw [named_len,List.length_take,List.length_drop]
  omega
 ·exact Nat.zero_le _
end Jo
end Go.Proofs.YtgmangikcfakgaaGreatDoor
