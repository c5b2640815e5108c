import Derived.Test.YtgmangikcfakgaaGreatDoorPA19
import Derived.Lib.AppendIntMem
import Derived.Test.YtgmangikcfakgaaGreatDoorPA5
set_option maxRecDepth 100000
set_option maxHeartbeats 40000000
namespace Go.Proofs.YtgmangikcfakgaaGreatDoor
open Go.RowKit Sh Jt Js Jo
structure JEnv (w:World):Prop where
 tab:TabOk w
 pow:Lib.TabIs Tryz.prog w "internal/strconv.uint64pow10" .u64 Lib.pow10Tab
theorem JEnv.below {w w':World} (h:JEnv w) (k:Below w.heap.size w w'):JEnv w':=⟨h.tab.below k,Lib.tabBelow_of_tabIs h.pow w' k⟩
theorem qeb {ops:Array Oper} {rest:List Oper} {o:Oper} {a:Act} {w:World} {Q:Exit→Act→World→Prop} (hg:o.guard=none) (x:Operand) (ho:o.op= .buildSlice 26 1 #[(0,x)]) (k:Int) (s1 s2:ByteArray) (n:Int) (hx:a.eval x= .agg #[.int .i64 k, .string s1, .string s2, .int .i64 n])
  (h:wpList Tryz.prog ops Q rest (a.put o.dst (.slice (some ⟨w.heap.size,0,none⟩) 1 1)) (w.alloc (.cells #[.int .i64 k, .string s1, .string s2, .int .i64 n] 72))):wpList Tryz.prog ops Q (o::rest) a w:=by
 obtain ⟨i,hi,hz,hsz,_⟩:=qc0
 refine wpList_buildSlice hg 26 72 1 #[(0,x)] ho #[.int .i64 k, .string s1, .string s2, .int .i64 n] i _ Tryz.underlying26 hi hz (by rw [hsz];decide) (by rw [hsz];decide) ?_ h
 rw [hsz]
 have e:(Array.map (fun (p:Nat×Operand)=> (p.1,a.eval p.2)) #[(0,x)]).toList=[(0, .agg #[.int .i64 k, .string s1, .string s2, .int .i64 n])]:=by simp [hx]
 show Instr.fill _ _ (Array.map (fun (p:Nat×Operand)=> (p.1,a.eval p.2)) #[(0,x)]).toList=_
 rw [e,show Array.range (1*4)=#[0,1,2,3]from by decide]
 simp [Instr.fill,Value.cells]
theorem qff (w:World) (v:V):OwnVals (w.alloc (.cells #[.int .i64 v.kind, .string (sb v.key), .string (sb v.text), .int .i64 v.count] 72)) w.heap.size (.slice (some ⟨w.heap.size,0,none⟩) 1 1) [v]:=
 ⟨rfl, .inr ⟨w.heap.size,1,_,rfl,Nat.le_refl _,heap_alloc_new w _,Nat.le_refl _,by unfold maxLen;omega,rfl,rfl⟩⟩
namespace Jo
theorem q0k {l:List UInt8} {i:Nat} {a:UInt8} {r:List UInt8} (h:l.drop i=a::r):fixF (l.drop i)=bytesF (orBad (charF (a::r))).1++fixF (l.drop (i+(orBad (charF (a::r))).2)):=by
 have hd:∀k,l.drop (i+k)=(a::r).drop k:=fun k=> by rw [←h,List.drop_drop]
 rw [h,hd]
 unfold orBad
 by_cases hz:(charF (a::r)).2=0
 ·rw [if_pos hz,qsy hz]
  rfl
 ·rw [if_neg hz,fixF,if_neg hz]
  rw [show (a::r).drop (charF (a::r)).2=r.drop ((charF (a::r)).2 - 1) by
   conv=> lhs;rw [show (charF (a::r)).2=((charF (a::r)).2 - 1)+1 by omega,List.drop_succ_cons]]
structure FSt (w:World) (b k:Nat) (l acc:List UInt8) (pos:Nat) (wr:World):Prop where
 mid:Mid w b k l acc pos wr
 fix:acc++fixF (l.drop pos)=fixF l
 len:acc.length≤4*pos
end Jo
theorem qiw (w:World) (l:List UInt8) (hl:l.length≤1000000000):Calls Tryz.prog 26 #[.string (sb l)] w fun e w'=> ∃v',e= .returned v'∧Hid (OwnVals w' w.heap.size v' [⟨4,[],fixF l,0⟩]∧Below w.heap.size w w'):=by
 have HD:=Qh (fun (i:Nat) (h:i < l.length)=> qho l h)
 have HT:=Qh (fun (i:Nat) (h:i < l.length)=> qiz (at_of l h))
 have HQ:=Qh (fun (i:Nat) (h:i < l.length)=> q0k (at_of l h))
 have hsz:=qag l
 have HB0:=Qh (Bld.fresh w)
 obtain ⟨w1,hw1⟩:∃w1,w1=w.alloc (.cells #[.pointer none, .slice none 0 0] 78):=⟨_,rfl⟩
 have HW1:=Qh hw1
 have hs1:w1.heap.size=w.heap.size+1:=by rw [hw1,World.size_alloc]
 have HS1:=Qh hs1
 have HST:=Qh (show FSt w w.heap.size (w.heap.size+1) l [] 0 (w1.iter (sb l) 0)from ⟨⟨by rw [hw1];exact (Bld.fresh w).alloc _,by have h:=World.iter_heap w1 (sb l) 0;rw [hs1]at h;exact h,by omega,by rw [hw1];exact ((Below.refl _ w).alloc (Nat.le_refl _) _).alloc (by rw [World.size_alloc];omega) _⟩,by rw [List.drop_zero];rfl,by simp⟩)
 clear hs1
 go_enter Tryz.func26,Tryz.ntmps26
 go_wp2_with fail
 rw [←hw1]
 clear hw1
 go_loopg [] l.length (fun g wx=> ∃(pos:Nat) (acc:List UInt8),pos+g=l.length∧Hid (FSt w w.heap.size (w.heap.size+1) l acc pos wx))
 case atStart=> exact ⟨0,[],by omega,HST⟩
 case round=>
  clear HST HB0;obtain ⟨pos,acc,hpg,HS⟩:=hrel
  have hit:=HS.out.mid.it
  cases gk with
  | zero=>
   obtain rfl:pos=l.length:=by omega
   have hnx:=fun ty=> Lib.run_next_end_at (P:=Tryz.prog) wr (w.heap.size+1) (sb l) l.length ty hit (by rw [hsz];omega)
   have HF:=Qh (show acc=fixF l from by
    have h:=HS.out.fix
    rw [List.drop_length,qlp,List.append_nil]at h
    exact h)
   have HL:=Qh HS.out.mid.low
   have HLT:=Qh HS.out.mid.lt
   have HO:=Qh (qmd HS.out.mid.bld HS.out.mid.lt)
   clear hit HS HD HT HQ hsz;rw [HF.out]at HO
   generalize sb l=S at*;go_wp2_with fail;refine HO.out.mono ?_
   rintro e w3 ⟨rfl,B3⟩;have HB3:=Qh (HL.out.trans B3)
   clear B3 HO;have HOW:=Qh (qff w3 ⟨4,[],fixF l,0⟩)
   have HBW:=Qh (below_alloc' w3 (.cells #[.int .i64 4, .string (sb []), .string (sb (fixF l)), .int .i64 0] 72))
   clear hnx;generalize sb (fixF l)=F at*;go_wp2_with (with_reducible refine qeb rfl _ rfl 4 ⟨#[]⟩ F 0 rfl ?_)
   go_ret;exact ⟨_,rfl,Qh ⟨HOW.out.mono HB3.out.size,HB3.out.trans (HBW.out.mono HB3.out.size)⟩⟩
  | succ g=>
   have hlt:pos < l.length:=by omega
   have hd:=HD.out pos hlt
   have T:=HT.out pos hlt
   have hq:=HQ.out pos hlt
   have hnx:=fun ty=> Lib.run_next_any_at (P:=Tryz.prog) wr (w.heap.size+1) (sb l) pos ty hit (by rw [hsz];exact hlt)
   rw [hd]at hnx
   obtain ⟨n,j,hnj⟩:∃n j,orBad (charF (l[pos]::l.drop (pos+1)))=(n,j):=⟨_,_,rfl⟩
   rw [hnj]at T hq hnx
   dsimp only at T hq hnx
   have hj:=T.pos
   have hjl:=T.le
   have HN:=Qh (fun (w':World) (m:Mid w w.heap.size (w.heap.size+1) l (acc++bytesF n) (pos+j) w')=> show FSt w w.heap.size (w.heap.size+1) l (acc++bytesF n) (pos+j) w' from ⟨m,by rw [List.append_assoc,←hq,HS.out.fix],by
    have h1:=HS.out.len
    have h2:=qb9 n
    rw [List.length_append];omega⟩)
   have HM2:=Qh (HS.out.mid.next (pos+j))
   have HLEN:=Qh (show acc.length≤100000000000 by have:=HS.out.len;omega)
   have HT1:=Qh T.ok
   clear hd hq HD HT HQ hnj T HS hit;generalize hw2:wr.iterAt (w.heap.size+1) (sb l) (pos+j)=w2 at hnx HM2;go_wp2_with fail;refine (qfn HM2.out.bld HLEN.out HM2.out.lt HT1.out).mono ?_
   rintro e w3 ⟨⟨v3,rfl⟩,B3⟩;have HM3:=Qh (HN.out w3 (HM2.out.wrote B3))
   clear B3 HM2 hnx hw2;go_wp2_with fail;go_roundg (g+1 - j)
   case measure=> omega
   case rel=> exact ⟨pos+j,_,by omega,HM3⟩
structure StrsAt (w:World) (A:Option Addr) (n c:Nat) (ks:List (List UInt8)):Prop where
 len:ks.length=n
 cap:n≤c
 at_:0 < n→∃b o,A=some ⟨b,o,none⟩∧b < w.heap.size∧w.rangeAt b o (ks.map fun k=> Value.string (sb k))
theorem StrsAt.below {w w':World} {A:Option Addr} {n c:Nat} {ks:List (List UInt8)} (h:StrsAt w A n c ks) (hb:Below w.heap.size w w'):StrsAt w' A n c ks:=
 ⟨h.len,h.cap,fun h0=> by
  obtain ⟨b,o,e,hlt,hr⟩:=h.at_ h0
  exact ⟨b,o,e,Nat.lt_of_lt_of_le hlt hb.size,qbd hr (qad hb) (fun h=> h)⟩⟩
theorem StrsAt.cell {w:World} {A:Option Addr} {n c:Nat} {ks:List (List UInt8)} (h:StrsAt w A n c ks) {j:Nat} (hj:j < ks.length):∃b o,A=some ⟨b,o,none⟩∧w.cell? ⟨b,o+j,none⟩=some (.string (sb ks[j])):=by
 obtain ⟨b,o,e,hlt,hr⟩:=h.at_ (by have:=h.len;omega)
 exact ⟨b,o,e,hr j _ (by rw [List.getElem?_map,List.getElem?_eq_getElem hj];rfl)⟩
namespace Jo
theorem qzt {Q:List Pc} {j:Nat} (h:j < Q.length):(rowsOf (Q.drop j)).all rightPF=(rightPF Q[j].row && (rowsOf (Q.drop (j+1))).all rightPF):=by
 rw [List.drop_eq_getElem_cons h]
 rfl
def halfO (ks:List (List UInt8)) (P:List (List V)) (j:Nat):List V:=⟨6,[],[],P.length⟩::((List.zipWith named (ks.take j) (P.take j)).flatten++(P.drop j).flatten)
theorem qvb (ks:List (List UInt8)) (P:List (List V)):halfO ks P 0=⟨6,[],[],P.length⟩::P.flatten:=rfl
theorem qod {ks:List (List UInt8)} {P:List (List V)} (h:ks.length=P.length):halfO ks P P.length=objF ks P:=by
 unfold halfO objF
 rw [List.take_length,←h,List.take_length,h,List.drop_length,List.flatten_nil,List.append_nil]
theorem q0l {ks:List (List UInt8)} {P:List (List V)} (h:ks.length=P.length) (j:Nat):(halfO ks P j).length=1+P.flatten.length:=by
 have e:P.flatten.length=(P.take j).flatten.length+(P.drop j).flatten.length:=by
  conv=> lhs;rw [←List.take_append_drop j P,List.flatten_append,List.length_append]
 unfold halfO
 rw [List.length_cons,List.length_append,qgr (by rw [List.length_take,List.length_take,h]),e]
 omega
theorem qxp {ks:List (List UInt8)} {P:List (List V)} (h:ks.length=P.length) {j:Nat} (hj:j < P.length) (hp:0 < P[j].length):keyAt (1+offs P j) (ks[j]'(by omega)) (halfO ks P j)=halfO ks P (j+1):=by
 have hz:(List.zipWith named (ks.take j) (P.take j)).flatten.length=offs P j:=qgr (by rw [List.length_take,List.length_take,h])
 have e1:(ks.take (j+1))=ks.take j++[ks[j]'(by omega)]:=List.take_succ_eq_append_getElem (by omega)
 have e2:(P.take (j+1))=P.take j++[P[j]]:=List.take_succ_eq_append_getElem hj
 have e3:(List.zipWith named (ks.take (j+1)) (P.take (j+1))).flatten=(List.zipWith named (ks.take j) (P.take j)).flatten++named (ks[j]'(by omega)) P[j]:=by
  rw [e1,e2,List.zipWith_append (by rw [List.length_take,List.length_take,h]),List.flatten_append];simp
 unfold keyAt halfO
 rw [e3,Nat.add_comm 1,List.take_succ_cons,List.drop_succ_cons,List.take_left' hz,List.drop_left' hz,List.drop_eq_getElem_cons hj,List.flatten_cons,qm1 _ hp,List.cons_append,List.append_assoc]
theorem qtn {m:Nat} {ks:List (List UInt8)} {P:List (List V)} (hP:∀p∈P,Short m p) (hk:∀k∈ks,k.length≤m):Short m (objF ks P):=by
 intro v hv
 unfold objF at hv
 rcases List.mem_cons.1 hv with rfl | hv
 ·exact ⟨Nat.zero_le _,Nat.zero_le _⟩
 ·obtain ⟨q,hq,hvq⟩:=List.mem_flatten.1 hv
  obtain ⟨i,hi,rfl⟩:=List.getElem_of_mem hq
  rw [List.getElem_zipWith]at hvq
  exact qcm (hP _ (List.getElem_mem _)) (hk _ (List.getElem_mem _)) v hvq
theorem qtz {m:Nat} {P:List (List V)} (hP:∀p∈P,Short m p):Short m (listF P):=by
 intro v hv
 rcases List.mem_cons.1 hv with rfl | hv
 ·exact ⟨Nat.zero_le _,Nat.zero_le _⟩
 ·obtain ⟨q,hq,hvq⟩:=List.mem_flatten.1 hv
  exact hP q hq v hvq
end Jo
theorem qls (w:World) (A:Option Addr) (n c:Nat) (Q:List Pc) (hQ:SlsAt w A n c Q) (hn:n≤4000) (hs:∀p∈Q,Short 1000000000 p.row) (hl:(rowsOf Q).flatten.length≤4000) (hT:TabOk w):
  Calls Tryz.prog 48 #[.slice A n c] w fun e w'=> ∃v',e= .returned v'∧Hid (OwnVals w' w.heap.size v' (listA (rowsOf Q))∧Below w.heap.size w w'):=by
 have hlen:=hQ.len
 have HQ:=Qh hQ
 have HLE:=Qh (fun j=> Nat.le_trans (qsx Q j) hl)
 have HTK:=Qh (fun (h:Q.length≤n)=> show Q.take n=Q from List.take_of_length_le h)
 have HDR:=Qh (fun (h:Q.length≤n)=> show Q.drop n=[]from List.drop_of_length_le h)
 obtain ⟨RV,hRV⟩:∃RV,RV=listA (rowsOf Q):=⟨_,rfl⟩
 rw [←hRV]
 have HRV:=Qh (show RV=if (rowsOf (Q.drop 0)).all rightPF=true then fineF (listF (rowsOf Q)) else []from hRV)
 have HLS:=Qh (qtz (P:=rowsOf Q) (m:=1000000000) (fun p hp=> by
  obtain ⟨q,hq,rfl⟩:=List.mem_map.1 hp
  exact hs q hq))
 have HSH:=Qh hs
 have HT:=Qh hT
 have HPL:=Qh (show (rowsOf Q).length=n by unfold rowsOf;rw [List.length_map];exact hlen)
 have HOW:=Qh (qff w ⟨5,[],[],n⟩)
 have HB0:=Qh (below_alloc' w (.cells #[.int .i64 5, .string (sb []), .string (sb []), .int .i64 n] 72))
 have hn9:(n:Int)≤4000:=by omega
 clear hQ hRV hl hs hT
 go_enter Tryz.func48,Tryz.ntmps48
 go_wp2_with (with_reducible refine qeb rfl _ rfl 5 ⟨#[]⟩ ⟨#[]⟩ n rfl ?_)
 go_loopg [3,12] n (fun g v3 v12 wx=> ∃j x gb k:Nat,v3= .slice (some ⟨gb,0,none⟩) (x+1) k∧v12= .int .i64 (j:Int)∧j+g=n∧x≤4000∧Hid (x=(rowsOf (Q.take j)).flatten.length)∧Hid (RV=if (rowsOf (Q.drop j)).all rightPF=true then fineF (listF (rowsOf Q)) else [])∧Hid (OwnVals wx w.heap.size (.slice (some ⟨gb,0,none⟩) (x+1) k) (⟨5,[],[],n⟩::(rowsOf (Q.take j)).flatten)∧Below w.heap.size w wx))
 case atStart=> exact ⟨0,0,_,1,rfl,rfl,by omega,by omega,Qh rfl,HRV,Qh ⟨HOW.out,HB0.out⟩⟩
 case round=>
  clear HRV HOW HB0;obtain ⟨j,x,gb,k,rfl,rfl,hjg,hx4,HX,HRV,HH⟩:=hrel
  cases gk with
  | zero=>
   obtain rfl:j=n:=by omega
   have hge:¬(j:Int) < (j:Int):=by omega
   have HD2:=Qh (HDR.out (by omega))
   have HT2:=Qh (HTK.out (by omega))
   rw [HD2.out]at HRV
   rw [HT2.out]at HH HX
   have HRV2:Hid (RV=fineF (⟨5,[],[],j⟩::(rowsOf Q).flatten)):=Qh (by rw [HRV.out];unfold listF;rw [HPL.out];rfl)
   have HSY:Hid (Short 1000000000 (⟨5,[],[],j⟩::(rowsOf Q).flatten)):=Qh (by have h:=HLS.out;unfold listF at h;rw [HPL.out]at h;exact h)
   have HI:=Qh (qem wr (some ⟨gb,0,none⟩) (x+1) k _ HH.out.1.at_.1 (by omega) HSY.out (HT.out.below HH.out.2))
   clear HRV HSY HX HD2 HT2;unfold fineF at HRV2;generalize rightPF (⟨5,[],[],j⟩::(rowsOf Q).flatten)=RY at*;have HLE2:=Qh HH.out.2.size
   cases RY with
   | true=>
    go_wp2_with fail;refine HI.out.mono ?_
    rintro e w7 ⟨rfl,HB8⟩;clear HI;go_wp2_with fail;go_ret;exact ⟨_,rfl,Qh ⟨by rw [HRV2.out];exact HH.out.1.below HB8.out,HH.out.2.trans (HB8.out.mono HLE2.out)⟩⟩
   | false=>
    go_wp2_with fail;refine HI.out.mono ?_
    rintro e w7 ⟨rfl,HB8⟩;clear HI;go_wp2_with fail;go_ret;exact ⟨_,rfl,Qh ⟨by rw [HRV2.out];exact OwnVals.nil _ _,HH.out.2.trans (HB8.out.mono HLE2.out)⟩⟩
  | succ g=>
   have hj:j < Q.length:=by omega
   obtain ⟨b,o,rfl,cc⟩:=(HQ.out.below HH.out.2).cell hj
   have HV:=Qh ((HQ.out.below HH.out.2).ins _ (List.getElem_mem hj))
   have HN:=Qh (qib Q hj)
   have hle:=HLE.out (j+1)
   rw [HN.out,List.length_append,←HX.out]at hle
   have HA:=Qh (qzt hj)
   have HS:=Qh (HSH.out _ (List.getElem_mem hj))
   have hjn:(j:Int) < (n:Int):=by omega
   unfold Pc.enc at cc;generalize Q[j]=p at*;obtain ⟨pa,pc,prow⟩:=p
   dsimp only at*
   have HLN:=Qh (show prow.length=prow.length from rfl)
   obtain ⟨pl,hpl⟩:∃pl,pl=prow.length:=⟨_,rfl⟩
   rw [←hpl]at cc hle
   have HPLN:=Qh hpl
   rw [←hpl]at HV
   clear hpl HLN;have hng:¬(5000:Int) - ((x:Int)+1) < (pl:Int):=by omega
   have hdg:decide ((5000:Int) - ((x:Int)+1) < (pl:Int))=false:=decide_eq_false hng
   have HR:=Qh (qc4 wr pa pl pc prow HV.out (by omega) HS.out (HT.out.below HH.out.2))
   cases hr:rightPF prow with
   | false=>
    rw [hr]at HR
    have HRV2:Hid (RV=[]):=Qh (by rw [HRV.out,HA.out,hr];rfl)
    have HLE2:=Qh HH.out.2.size
    clear HRV HA hr HV HS HN HX;go_wp2_with fail;refine HR.out.mono ?_
    rintro e w4 ⟨rfl,HB4⟩;clear HR;go_wp2_with fail;go_ret;exact ⟨_,rfl,Qh ⟨by rw [HRV2.out];exact OwnVals.nil _ _,HH.out.2.trans (HB4.out.mono HLE2.out)⟩⟩
   | true=>
    rw [hr]at HR
    have HRV2:Hid (RV=if (rowsOf (Q.drop (j+1))).all rightPF=true then fineF (listF (rowsOf Q)) else []):=Qh (by rw [HRV.out,HA.out,hr,Bool.true_and])
    have hp0:=(qbo hr).2.1
    obtain ⟨b3,o3,rfl,_,_⟩:=HV.out.at_ (by rw [HPLN.out];exact hp0)
    have HX2:Hid (x+pl=(rowsOf (Q.take (j+1))).flatten.length):=Qh (by rw [HN.out,List.length_append,HX.out,HPLN.out])
    clear HRV HA hr HS hp0;go_wp2_with fail;refine HR.out.mono ?_
    rintro e w4 ⟨rfl,HB4⟩;clear HR;have HOW:=Qh (HH.out.1.below HB4.out)
    have HVW:=Qh (HV.out.below HB4.out)
    have HBW:=Qh (HH.out.2.trans (HB4.out.mono HH.out.2.size))
    have HSZ:=Qh HBW.out.size
    have HLL:Hid ((⟨5,[],[],n⟩::(rowsOf (Q.take j)).flatten:List V).length=x+1):=Qh (by rw [List.length_cons,←HX.out])
    clear HH HV HB4;have HL9:=Qh hle
    clear hle;have HL5:Hid (((⟨5,[],[],n⟩::(rowsOf (Q.take j)).flatten:List V)++prow).length=x+pl+1):=Qh (by rw [List.length_append,HLL.out,HPLN.out];omega)
    go_wp2_with (at_builtin;go_must (with_reducible refine qa6 rfl _ _ rfl w.heap.size (.slice (some ⟨gb,0,none⟩) (x+1) k) (⟨5,[],[],n⟩::(rowsOf (Q.take j)).flatten) rfl HOW.out ⟨b3,o3,none⟩ pl pc prow rfl HVW.out (by rw [HLL.out];have:=HL9.out;omega) HSZ.out ?_;intro v5 w5 h1 h2 h3;have hg5:=h1.out.got (by rw [HL5.out];omega);rw [HL5.out]at hg5;obtain ⟨g5,k5,rfl, -⟩:=hg5))
    rw [List.cons_append,←HN.out]at h1
    go_roundg g
    case measure=> omega
    case rel=> exact ⟨j+1,x+pl,g5,k5,rfl,by go_num,by omega,by have:=HL9.out;omega,HX2,HRV2,Qh ⟨h1.out,HBW.out.trans (qak h2.out HSZ.out (fun i hi e=> by omega))⟩⟩
namespace Jo
theorem qwy (P:List (List V)) {j:Nat} (h:j < P.length):offs P (j+1)=offs P j+P[j].length:=by
 unfold offs
 rw [List.take_succ_eq_append_getElem h,List.flatten_append,List.length_append]
 simp
theorem q1y (P:List (List V)) (j:Nat):offs P j≤P.flatten.length:=by
 unfold offs
 conv=> rhs;rw [←List.take_append_drop j P,List.flatten_append,List.length_append]
 omega
theorem qws {P:List (List V)} (h:(listA P).length≠0):listA P=listF P∧P.all rightPF=true:=by
 unfold listA fineF at h ⊢
 split at h
 next hP=>
  rw [if_pos hP];split at h
  next hr=> rw [if_pos hr];exact ⟨rfl,hP⟩
  next hr=> exact absurd rfl h
 next hP=> exact absurd rfl h
end Jo
theorem qhp (w:World) (A:Option Addr) (n c:Nat) (ks:List (List UInt8)) (hK:StrsAt w A n c ks) (hkn:n≤4000) (hks:∀k∈ks,k.length≤1000000000) (A2:Option Addr) (n2 c2:Nat) (Q:List Pc) (hQ:SlsAt w A2 n2 c2 Q) (hn:n2≤4000) (hs:∀p∈Q,Short 1000000000 p.row) (hl:(rowsOf Q).flatten.length≤4000) (hT:TabOk w):
  Calls Tryz.prog 19 #[.slice A n c, .slice A2 n2 c2] w fun e w'=> ∃v',e= .returned v'∧Hid (OwnVals w' w.heap.size v' (objA ks (rowsOf Q))∧Below w.heap.size w w'):=by
 have HLI:=Qh (qls w A2 n2 c2 Q hQ hn hs hl hT)
 have hlen:=hK.len
 have hlen2:=hQ.len
 obtain ⟨RV,hRV⟩:∃RV,RV=objA ks (rowsOf Q):=⟨_,rfl⟩
 rw [←hRV]
 by_cases he:(listA (rowsOf Q)).length=0
 ·have he2:=List.eq_nil_of_length_eq_zero he
  rw [he2]at HLI
  have HX:Hid (RV=[]):=Qh (by rw [hRV,qwh he2])
  clear hRV he he2 hK hQ hs hl hT hks;go_enter Tryz.func19,Tryz.ntmps19
  go_wp2_with fail;refine HLI.out.mono ?_
  rintro e w2 ⟨v2,rfl,H2⟩;obtain ⟨A3,c3,rfl, -⟩:=H2.out.1.vals
  change Hid (OwnVals _ _ (.slice A3 0 c3) _∧_)at H2
  clear HLI;go_wp2_with fail;go_ret;exact ⟨_,rfl,Qh ⟨by rw [HX.out];exact OwnVals.nil _ _,H2.out.2⟩⟩
 ·obtain ⟨hlf,hall⟩:=qws he
  rw [hlf]at HLI
  have hPl:(rowsOf Q).length=n2:=by unfold rowsOf;rw [List.length_map];exact hlen2
  have hll:(listF (rowsOf Q)).length=1+(rowsOf Q).flatten.length:=by unfold listF;rw [List.length_cons];omega
  obtain ⟨N,hN⟩:∃N,N=1+(rowsOf Q).flatten.length:=⟨_,rfl⟩
  rw [←hN]at hll
  have HLL:=Qh hll
  have hN0:0 < N∧N≤4001:=by omega
  have hN0i:(0:Int) < (N:Int):=by omega
  have hNb:((N:Int)==0)=false:=beq_eq_false_iff_ne.2 (by omega)
  by_cases hnn:n=n2
  ·subst hnn
   have HRV:Hid (RV=fineF (halfO ks (rowsOf Q) n)):=Qh (by
    rw [hRV];unfold objA;rw [if_pos ⟨hall,by rw [hlen,hPl]⟩,←qod (by rw [hlen,hPl]),hPl])
   have HSY:Hid (Short 1000000000 (halfO ks (rowsOf Q) n)):=Qh (by
    have h:=qtn (P:=rowsOf Q) (ks:=ks) (m:=1000000000) (fun p hp=> by
     obtain ⟨q,hq,rfl⟩:=List.mem_map.1 hp
     exact hs q hq) hks
    rw [←qod (by rw [hlen,hPl]),hPl]at h
    exact h)
   have HHL:=Qh (fun j=> show (halfO ks (rowsOf Q) j).length=N from by rw [q0l (by rw [hlen,hPl]),hN])
   have HNX:=Qh (fun (j:Nat) (hj:j < Q.length) (hjk:j < ks.length)=> show (rowsOf Q).length=n→keyAt (1+offs (rowsOf Q) j) ks[j] (halfO ks (rowsOf Q) j)=halfO ks (rowsOf Q) (j+1)∧offs (rowsOf Q) (j+1)=offs (rowsOf Q) j+Q[j].row.length∧0 < Q[j].row.length∧1+offs (rowsOf Q) j+Q[j].row.length≤N from fun hpl=> by
    have hj2:j < (rowsOf Q).length:=by omega
    have hg:(rowsOf Q)[j]=Q[j].row:=by simp [rowsOf]
    have hp:0 < Q[j].row.length:=by
     have h:=(qbo (List.all_eq_true.1 hall _ (List.getElem_mem hj2))).2.1
     rw [hg]at h
     exact h
    have h1:=qwy (rowsOf Q) hj2
    have h2:=q1y (rowsOf Q) (j+1)
    rw [hg]at h1
    exact ⟨qxp (by rw [hlen,hPl]) hj2 (by rw [hg];exact hp),h1,hp,by omega⟩)
   have HK:=Qh hK
   have HQ:=Qh hQ
   have HT:=Qh hT
   have HPL:=Qh hPl
   have hn9:(n:Int)≤4000:=by omega
   have hbn:((n:Int) !=(n:Int))=false:=by simp
   have HLF:Hid (listF (rowsOf Q)=⟨5,[],[],n⟩::(rowsOf Q).flatten):=Qh (by unfold listF;rw [hPl])
   have HH0:Hid (halfO ks (rowsOf Q) 0=⟨6,[],[],n⟩::(rowsOf Q).flatten):=Qh (by rw [qvb,hPl])
   clear hRV hK hQ hs hl hT hks he hlf hall hPl hll hN;go_enter Tryz.func19,Tryz.ntmps19
   go_wp2_with fail;refine HLI.out.mono ?_
   rintro e w2 ⟨v2,rfl,H2⟩;clear HLI;have hg2:=H2.out.1.got (by rw [HLL.out];omega)
   rw [HLL.out]at hg2
   obtain ⟨g2,k2,rfl,hg2b,hg2l,hk2⟩:=hg2
   have f0:=H2.out.1.unfrozen 0
   have hL0:0 < (listF (rowsOf Q)).length:=by rw [HLL.out];omega
   obtain ⟨x0,y0⟩:∃x,w2.cell? ⟨g2,0,none⟩=some x:=by
    obtain ⟨y0,_,_,_⟩:=H2.out.1.at_.1.cells hL0
    rw [Nat.zero_mul,Nat.zero_add]at y0
    exact ⟨_,y0⟩
   have hs1:=H2.out.1
   rw [HLF.out]at hs1
   have hs2:=hs1.set (i:=0) (j:=0) (by simp) (by decide) (x:= .int .i64 6) (v:=⟨6,[],[],n⟩) rfl
   rw [List.set_cons_zero,←HH0.out,Nat.zero_mul,Nat.zero_add]at hs2
   have HF:=Qh (And.intro hs2 (H2.out.2.trans (hs1.setBelow 0 (.int .i64 6))))
   clear hs1 hs2 H2 HLL HLF hL0;go_wp2_with fail;go_loopg [6,26] n (fun g v6 v26 wx=> ∃j y:Nat,v6= .int .i64 (y:Int)∧v26= .int .i64 (j:Int)∧j+g=n∧y≤4001∧Hid (y=1+offs (rowsOf Q) j)∧Hid (OwnVals wx w.heap.size (.slice (some ⟨g2,0,none⟩) N k2) (halfO ks (rowsOf Q) j)∧Below w.heap.size w wx))
   case atStart=> exact ⟨0,1,rfl,rfl,by omega,by omega,Qh rfl,HF⟩
   case round=>
    clear HF f0 y0;obtain ⟨j,y,rfl,rfl,hjg,hy9,HY,HH⟩:=hrel
    cases gk with
    | zero=>
     obtain rfl:j=n:=by omega
     have hge:¬(j:Int) < (j:Int):=by omega
     have HI:=Qh (qem wr (some ⟨g2,0,none⟩) N k2 _ HH.out.1.at_.1 (by omega) HSY.out (HT.out.below HH.out.2))
     clear HSY HY HNX HHL;unfold fineF at HRV;generalize rightPF (halfO ks (rowsOf Q) j)=RY at*;have HLE2:=Qh HH.out.2.size
     cases RY with
     | true=>
      go_wp2_with fail;refine HI.out.mono ?_
      rintro e w7 ⟨rfl,HB8⟩;clear HI;go_wp2_with fail;go_ret;exact ⟨_,rfl,Qh ⟨by rw [HRV.out];exact HH.out.1.below HB8.out,HH.out.2.trans (HB8.out.mono HLE2.out)⟩⟩
     | false=>
      go_wp2_with fail;refine HI.out.mono ?_
      rintro e w7 ⟨rfl,HB8⟩;clear HI;go_wp2_with fail;go_ret;exact ⟨_,rfl,Qh ⟨by rw [HRV.out];exact OwnVals.nil _ _,HH.out.2.trans (HB8.out.mono HLE2.out)⟩⟩
    | succ g=>
     have hj:j < Q.length:=by omega
     have hjk:j < ks.length:=by omega
     obtain ⟨m1,m2,m3,m4⟩:=HNX.out j hj hjk HPL.out
     obtain ⟨b,o,rfl,cc⟩:=(HQ.out.below HH.out.2).cell hj
     obtain ⟨b1,o1,rfl,ck⟩:=(HK.out.below HH.out.2).cell hjk
     have HY2:=Qh (show y+Q[j].row.length=1+offs (rowsOf Q) (j+1)by rw [m2,HY.out];omega)
     have hyN:y < N:=by have:=HY.out;omega
     have hyNi:(y:Int) < (N:Int):=by omega
     have hy2:y+Q[j].row.length≤N:=by have:=HY.out;omega
     have hyl:y < (halfO ks (rowsOf Q) j).length:=by rw [HHL.out];exact hyN
     have fz:=HH.out.1.unfrozen (y*4+1)
     obtain ⟨x1,y1⟩:∃x,wr.cell? ⟨g2,y*4+1,none⟩=some x:=by
      obtain ⟨_,y1,_,_⟩:=HH.out.1.at_.1.cells hyl
      rw [Nat.zero_add]at y1
      exact ⟨_,y1⟩
     have hs1:=HH.out.1.set (i:=y) (j:=1) hyl (by decide) (x:= .string (sb ks[j])) (v:=⟨(halfO ks (rowsOf Q) j)[y].kind,ks[j],(halfO ks (rowsOf Q) j)[y].text,(halfO ks (rowsOf Q) j)[y].count⟩) rfl
     rw [ql5 _ hyl,HY.out,m1,←HY.out]at hs1
     have HF:=Qh (And.intro hs1 (HH.out.2.trans (HH.out.1.setBelow (y*4+1) (.string (sb ks[j])))))
     have hjn:(j:Int) < (n:Int):=by omega
     clear hs1 m1 m2 m3 m4 HH hyl HY;unfold Pc.enc at cc;generalize Q[j]=p at*;obtain ⟨pa,pc,prow⟩:=p
     dsimp only at*
     generalize prow.length=pl at*;generalize sb ks[j]=KK at*;go_wp2_with fail;go_roundg g
     case measure=> omega
     case rel=> exact ⟨j+1,y+pl,by go_num,by go_num,by omega,by omega,HY2,HF⟩
  ·have hbn:((n:Int) !=(n2:Int))=true:=bne_iff_ne.2 (by omega)
   have HX:Hid (RV=[]):=Qh (by
    rw [hRV];unfold objA;rw [if_neg (fun h=> hnn (by have:=h.2;omega))])
   clear hRV hK hQ hs hl hT hks he hlf hall hPl hll hN hnn;go_enter Tryz.func19,Tryz.ntmps19
   go_wp2_with fail;refine HLI.out.mono ?_
   rintro e w2 ⟨v2,rfl,H2⟩;have hg2:=H2.out.1.got (by rw [HLL.out];omega)
   rw [HLL.out]at hg2
   obtain ⟨g2,k2,rfl, -⟩:=hg2
   clear HLI;go_wp2_with fail;go_ret;exact ⟨_,rfl,Qh ⟨by rw [HX.out];exact OwnVals.nil _ _,H2.out.2⟩⟩
end Go.Proofs.YtgmangikcfakgaaGreatDoor
namespace Go.Proofs.YtgmangikcfakgaaGreatDoor
open Go.RowKit Sh Jt Js
theorem qft (a b:List UInt8):((sb a).toList==(sb b).toList)=(a==b):=by rw [qab,qab]
theorem js_eq (W:World) (k1 k2 n1 n2:Int) (a b c d:ByteArray):(Op.equalIn 10000 72 (.agg #[.int .i64 k1, .string a, .string b, .int .i64 n1]) (.agg #[.int .i64 k2, .string c, .string d, .int .i64 n2])).run Tryz.prog W= .ok (((k1==k2) && (a.toList==c.toList)) && ((b.toList==d.toList) && (n1==n2))) W:=by
 cases h0:(k1==k2) <;> cases h1:(a.toList==c.toList) <;> cases h2:(b.toList==d.toList) <;> cases h3:(n1==n2) <;> go_simp
theorem qsw (w:World) (A1 A2:Option Addr) (n1 c1 n2 c2:Nat) (L M:List V) (hL:ValsAt w A1 n1 c1 L) (hM:ValsAt w A2 n2 c2 M) (hn:n1≤140737488351232) (hn2:n2≤140737488351232):
  Calls Tryz.prog 23 #[.slice A1 n1 c1, .slice A2 n2 c2] w fun e w'=> e= .returned (.bool (decide (L=M)))∧∃m,w'=w.drewN m:=by
 have HL:=Qh hL
 have HM:=Qh hM
 have hlen:=hL.len
 have hlen2:=hM.len
 clear hL hM
 by_cases hne:n1=n2
 ·subst hne
  go_enter Tryz.func23,Tryz.ntmps23
  go_wp2_with fail;go_loopw [5] (fun i wr=> ∃k m:Nat,k≤n1∧i= .int .i64 k∧Hid (L.take k=M.take k)∧wr=w.drewN m) (fun i _=> n1 - (intOf i).toNat)
  case atStart=> exact ⟨0,0,Nat.zero_le _,rfl,Qh rfl,rfl⟩
  case round=>
   obtain ⟨k,m,hk,rfl,HO,rfl⟩:=hrel
   by_cases hlt:k < n1
   ·obtain ⟨b,o,rfl,hbl,_⟩:=HL.out.at_ (by omega)
    obtain ⟨b2,o2,rfl,hbl2,_⟩:=HM.out.at_ (by omega)
    have hkl:k < L.length:=by omega
    have hkm:k < M.length:=by omega
    obtain ⟨x0,x1,x2,x3⟩:=HL.out.cells hkl
    obtain ⟨y0,y1,y2,y3⟩:=HM.out.cells hkm
    have hlt':(k:Int) < (n1:Int):=by omega
    have q1:=qft L[k].key M[k].key
    have q2:=qft L[k].text M[k].text
    have HT:=Qh (And.intro (List.take_succ_eq_append_getElem hkl) (List.take_succ_eq_append_getElem hkm))
    have HG:=Qh (show L=M→L[k]=M[k]from fun h=> by subst h;rfl)
    generalize L[k]=p at*;generalize M[k]=q at*;by_cases he:p=q
    ·subst he
     have HS:=Qh (show L.take (k+1)=M.take (k+1)by rw [HT.out.1,HT.out.2,HO.out])
     generalize sb p.key=s1 at*;generalize sb p.text=s2 at*;generalize p.kind=s3 at*;generalize p.count=s4 at*;have hq:∀W,(Op.equalIn 10000 72 (.agg #[.int .i64 s3, .string s1, .string s2, .int .i64 s4]) (.agg #[.int .i64 s3, .string s1, .string s2, .int .i64 s4])).run Tryz.prog W= .ok true W:=fun W=> by
      have:=js_eq W s3 s3 s4 s4 s1 s2 s1 s2
      simpa using this
     clear q1 q2 HT HG;go_upto_region 6 with fail;go_quiet (fail)
     rw [World.drewN_drewN];go_wp2_with fail;go_roundw
     case rel=> exact ⟨k+1,m+nq,by omega,by go_num,HS,rfl⟩
     case measure=> simp [intOf] <;> omega
    ·have HN:=Qh (show decide (L=M)=false from decide_eq_false fun h=> he (HG.out h))
     have hz:(((p.kind==q.kind) && ((sb p.key).toList==(sb q.key).toList)) && (((sb p.text).toList==(sb q.text).toList) && (p.count==q.count)))=false:=by
      rw [q1,q2];cases h0:(p.kind==q.kind)with
      | false=> rfl
      | true=>
       cases h1:(p.key==q.key)with
       | false=> rfl
       | true=>
        cases h2:(p.text==q.text)with
        | false=> rfl
        | true=>
         cases h3:(p.count==q.count)with
         | false=> rfl
         | true=>
          refine absurd ?_ he
          obtain ⟨a1,a2,a3,a4⟩:=p
          obtain ⟨b1,b2,b3,b4⟩:=q
          obtain rfl:=LawfulBEq.eq_of_beq h0
          obtain rfl:=LawfulBEq.eq_of_beq h1
          obtain rfl:=LawfulBEq.eq_of_beq h2
          obtain rfl:=LawfulBEq.eq_of_beq h3
          rfl
     have hq:∀W,(Op.equalIn 10000 72 (.agg #[.int .i64 p.kind, .string (sb p.key), .string (sb p.text), .int .i64 p.count]) (.agg #[.int .i64 q.kind, .string (sb q.key), .string (sb q.text), .int .i64 q.count])).run Tryz.prog W= .ok false W:=fun W=> by
      rw [js_eq,hz]
     clear q1 q2 HT HG hz;generalize sb p.key=s1 at*;generalize sb p.text=s2 at*;generalize p.kind=s3 at*;generalize p.count=s4 at*;generalize sb q.key=s5 at*;generalize sb q.text=s6 at*;generalize q.kind=s7 at*;generalize q.count=s8 at*;go_upto_region 6 with fail;go_quiet (fail)
     rw [World.drewN_drewN];go_wp2_with fail;go_ret;exact ⟨by rw [HN.out];rfl,_,rfl⟩
   ·obtain rfl:k=n1:=by omega
    have HN:Hid (decide (L=M)=true):=Qh (decide_eq_true (by
     have h:=HO.out
     rwa [List.take_of_length_le (by omega),List.take_of_length_le (by omega)]at h))
    have hge:¬(k:Int) < (k:Int):=by omega
    go_wp2_with fail;go_ret;exact ⟨by rw [HN.out];rfl,_,rfl⟩
 ·have HN:=Qh (show decide (L=M)=false from decide_eq_false fun h=> hne (by rw [←hlen,←hlen2,h]))
  have hb:((n1:Int) !=(n2:Int))=true:=bne_iff_ne.2 (by omega)
  clear hne;go_enter Tryz.func23,Tryz.ntmps23
  go_wp2_with fail;go_ret;exact ⟨by rw [HN.out];rfl,0,rfl⟩
end Go.Proofs.YtgmangikcfakgaaGreatDoor
namespace Go.Proofs.YtgmangikcfakgaaGreatDoor
open Go.RowKit Sh Jt Js Jo
theorem qjn {f:FuncId} {args:Array Value} {W:World} {L:List V} {n:Nat} (hn:L.length=n) (h0:0 < n) (h:Calls Tryz.prog f args W fun e w'=> ∃v',e= .returned v'∧Hid (OwnVals w' W.heap.size v' L∧Below W.heap.size W w')):
  Calls Tryz.prog f args W fun e w'=> ∃g k,e= .returned (.slice (some ⟨g,0,none⟩) n k)∧Hid (OwnVals w' W.heap.size (.slice (some ⟨g,0,none⟩) n k) L∧ValsAt w' (some ⟨g,0,none⟩) n k L∧Below W.heap.size W w'):=by
 subst hn
 refine h.mono ?_
 rintro e w' ⟨v',rfl,H⟩
 obtain ⟨g,k,rfl, -⟩:=H.out.1.got h0
 exact ⟨g,k,rfl,Qh ⟨H.out.1,H.out.1.at_.1,H.out.2⟩⟩
theorem qgz:∃i,Tryz.prog.info? 9=some i∧i.zero=some (.string ⟨#[]⟩)∧i.size=1∧i.bytes=16:=by
 have h:(Tryz.prog.info? 9).map (fun i=> (i.zero,i.size,i.bytes))=some (some (.string ⟨#[]⟩),1,16):=by kernel_rfl
 obtain ⟨i,hi,hz⟩:=Option.map_eq_some_iff.1 h
 simp only [Prod.mk.injEq]at hz
 exact ⟨i,hi,hz.1,hz.2.1,hz.2.2⟩
theorem ql2 (W:World) (a b:ByteArray):(Instr.buildSlice 53 2 #[(0, .string a),(1, .string b)]).run Tryz.prog W= .ok (.slice (some ⟨W.heap.size,0,none⟩) 2 2) (W.alloc (.cells #[.string a, .string b] 9)):=by
 obtain ⟨i,hi,hz,hsz,_⟩:=qgz
 refine run_buildSlice (P:=Tryz.prog) W 53 9 2 #[(0, .string a),(1, .string b)] #[.string a, .string b] i _ Tryz.underlying53 hi hz (by rw [hsz];decide) (by rw [hsz];decide) ?_
 rw [hsz]
 rw [show Array.range (2*1)=#[0,1]from by decide]
 simp [Instr.fill,Value.cells]
theorem StrsAt.new2 (w:World) (a b:List UInt8):StrsAt (w.alloc (.cells #[.string (sb a), .string (sb b)] 9)) (some ⟨w.heap.size,0,none⟩) 2 2 [a,b]:=by
 have r:=Row.new w 9 [.string (sb a), .string (sb b)]
 exact ⟨rfl,Nat.le_refl _,fun _=> ⟨_,0,rfl,r.lt,r.range 0 _ (fun j v hj=> by rw [Nat.zero_add];exact hj)⟩⟩
theorem SlsAt.new2 (w:World) {a b:Addr} {n m c d:Nat} {L M:List V} (hL:ValsAt w (some a) n c L) (hM:ValsAt w (some b) m d M):SlsAt (w.alloc (.cells #[.slice (some a) n c, .slice (some b) m d] 26)) (some ⟨w.heap.size,0,none⟩) 2 2 [⟨some a,c,L⟩,⟨some b,d,M⟩]:=by
 have h1:=hL.len
 have h2:=hM.len
 refine SlsAt.new w [⟨some a,c,L⟩,⟨some b,d,M⟩] (fun p hp=> ?_) _ (by rw [List.map_cons,List.map_cons,List.map_nil];unfold Pc.enc;dsimp only;rw [h1,h2]) 2 rfl
 simp only [List.mem_cons,List.not_mem_nil,or_false]at hp
 rcases hp with rfl | rfl
 ·dsimp only;rw [h1];exact hL
 ·dsimp only;rw [h2];exact hM
end Go.Proofs.YtgmangikcfakgaaGreatDoor
namespace Go.Proofs.YtgmangikcfakgaaGreatDoor
open Go.RowKit Sh Jt Js
end Go.Proofs.YtgmangikcfakgaaGreatDoor
namespace Go.Proofs.YtgmangikcfakgaaGreatDoor
open Go.RowKit Sh Jt Js Jo
theorem qar {m k:Nat} {L:List V} (h:Short m L) (hm:m≤k):Short k L:=fun v hv=> ⟨Nat.le_trans (h v hv).1 hm,Nat.le_trans (h v hv).2 hm⟩
theorem qaj {f:FuncId} {args:Array Value} {W:World} {L:List V} {n:Nat} (hn:L.length=n) (h:Calls Tryz.prog f args W fun e w'=> ∃v',e= .returned v'∧Hid (OwnVals w' W.heap.size v' L∧Below W.heap.size W w')):
  Calls Tryz.prog f args W fun e w'=> ∃A k,e= .returned (.slice A n k)∧Hid (OwnVals w' W.heap.size (.slice A n k) L∧ValsAt w' A n k L∧Below W.heap.size W w'):=by
 subst hn
 refine h.mono ?_
 rintro e w' ⟨v',rfl,H⟩
 obtain ⟨A,k,rfl,hv, -⟩:=H.out.1.vals
 exact ⟨A,k,rfl,Qh ⟨H.out.1,hv,H.out.2⟩⟩
namespace Jo
theorem qla {m:Nat} {L:List V} (h:Short m L) (c:Int):Short m (bump c L):=by
 match L,h with
 | [],_=> exact fun v hv=> by cases hv
 | v::r,h=>
  intro x hx;rcases List.mem_cons.1 hx with rfl | hx
  ·exact h v List.mem_cons_self
  ·exact h x (List.mem_cons_of_mem _ hx)
theorem qt1 {m:Nat} {L M:List V} {key:List UInt8} (h:Short m L) (h2:Short m M) (hk:key.length≤m):Short m (setF L key M):=by
 unfold setF
 cases getA L 0 key with
 | none=> exact qbe (qla h 1) (qcm h2 hk)
 | some p=> exact qbe (qcf h p) (qbe (qcm h2 hk) (qcc h _))
theorem qcg {m:Nat} {L M:List V} {key:List UInt8} (h:Short m L) (h2:Short m M) (hk:key.length≤m):Short m (setA L key M):=by
 unfold setA fineF
 split
 ·split
  ·exact qt1 h h2 hk
  ·exact fun v hv=> by cases hv
 ·exact fun v hv=> by cases hv
theorem qbj {m:Nat} {L:List V} {key:List UInt8} (h:Short m L):Short m (dropA L key):=by
 unfold dropA
 split
 ·cases getA L 0 key with
  | none=> exact h
  | some p=> exact qla (qbe (qcf h p) (qcc h _)) _
 ·exact fun v hv=> by cases hv
theorem qc6 (L:List V) (z:Int):(cutA L z).length≤L.length:=by
 unfold cutA
 split
 ·rw [qbs,List.length_take,List.length_drop]
  omega
 ·exact Nat.zero_le _
end Jo
end Go.Proofs.YtgmangikcfakgaaGreatDoor
