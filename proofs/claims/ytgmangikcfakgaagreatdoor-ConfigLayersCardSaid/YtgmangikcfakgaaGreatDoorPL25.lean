import Derived.Test.YtgmangikcfakgaaGreatDoorPL24
import Derived.Test.YtgmangikcfakgaaGreatDoorPL14
import Derived.Lib.AppendIntMem
import Derived.Test.YtgmangikcfakgaaGreatDoorPL4
namespace Go.Proofs.YtgmangikcfakgaaGreatDoor
open Go.RowKit Sh Jt Js Jo
structure JEnv (w:World):Prop where
 tab:TabOk w
 pow:Lib.TabIs Tryz.prog w "internal/strconv.uint64pow10" .u64 Lib.pow10Tab
theorem JEnv.below {w w':World} (h:JEnv w) (k:Below w.heap.size w w'):JEnv w':=⟨h.tab.below k,Lib.tabBelow_of_tabIs h.pow w' k⟩
theorem jo_build1 {ops:Array Oper} {rest:List Oper} {o:Oper} {a:Act} {w:World} {Q:Exit→Act→World→Prop} (hg:o.guard=none) (x:Operand) (ho:o.op= .buildSlice 26 1 #[(0,x)]) (k:Int) (s1 s2:ByteArray) (n:Int) (hx:a.eval x= .agg #[.int .i64 k, .string s1, .string s2, .int .i64 n])
  (h:wpList Tryz.prog ops Q rest (a.put o.dst (.slice (some ⟨w.heap.size,0,none⟩) 1 1)) (w.alloc (.cells #[.int .i64 k, .string s1, .string s2, .int .i64 n] 72))):wpList Tryz.prog ops Q (o::rest) a w:=by
 obtain ⟨i,hi,hz,hsz,_⟩:=js_infoZ
 refine wpList_buildSlice hg 26 72 1 #[(0,x)] ho #[.int .i64 k, .string s1, .string s2, .int .i64 n] i _ Tryz.underlying26 hi hz (by rw [hsz];decide) (by rw [hsz];decide) ?_ h
 rw [hsz]
 have e:(Array.map (fun (p:Nat×Operand)=> (p.1,a.eval p.2)) #[(0,x)]).toList=[(0, .agg #[.int .i64 k, .string s1, .string s2, .int .i64 n])]:=by simp [hx]
 show Instr.fill _ _ (Array.map (fun (p:Nat×Operand)=> (p.1,a.eval p.2)) #[(0,x)]).toList=_
 rw [e,show Array.range (1*4)=#[0,1,2,3]from by decide]
 simp [Instr.fill,Value.cells]
theorem own_laid (w:World) (v:V):OwnVals (w.alloc (.cells #[.int .i64 v.kind, .string (sb v.key), .string (sb v.text), .int .i64 v.count] 72)) w.heap.size (.slice (some ⟨w.heap.size,0,none⟩) 1 1) [v]:=
 ⟨rfl, .inr ⟨w.heap.size,1,_,rfl,Nat.le_refl _,heap_alloc_new w _,Nat.le_refl _,by unfold maxLen;omega,rfl,rfl⟩⟩
namespace Jo
theorem fix_step {l:List UInt8} {i:Nat} {a:UInt8} {r:List UInt8} (h:l.drop i=a::r):fixF (l.drop i)=bytesF (orBad (charF (a::r))).1++fixF (l.drop (i+(orBad (charF (a::r))).2)):=by
 have hd:∀k,l.drop (i+k)=(a::r).drop k:=fun k=> by rw [←h,List.drop_drop]
 rw [h,hd]
 unfold orBad
 by_cases hz:(charF (a::r)).2=0
 ·rw [if_pos hz,fix_bad hz]
  rfl
 ·rw [if_neg hz,fixF,if_neg hz]
  rw [show (a::r).drop (charF (a::r)).2=r.drop ((charF (a::r)).2 - 1) by
   conv=> lhs;rw [show (charF (a::r)).2=((charF (a::r)).2 - 1)+1 by omega,List.drop_succ_cons]]
structure FSt (w:World) (b k:Nat) (l acc:List UInt8) (pos:Nat) (wr:World):Prop where
 mid:Mid w b k l acc pos wr
 fix:acc++fixF (l.drop pos)=fixF l
 len:acc.length≤4*pos
end Jo
set_option maxRecDepth 100000 in
set_option maxHeartbeats 4000000 in
theorem jo_text (w:World) (l:List UInt8) (hl:l.length≤1000000000):Calls Tryz.prog 26 #[.string (sb l)] w fun e w'=> ∃v',e= .returned v'∧Hid (OwnVals w' w.heap.size v' [⟨4,[],fixF l,0⟩]∧Below w.heap.size w w'):=by
 have HD:=Lib.hid (fun (i:Nat) (h:i < l.length)=> dec_at l h)
 have HT:=Lib.hid (fun (i:Nat) (h:i < l.length)=> told_is (at_of l h))
 have HQ:=Lib.hid (fun (i:Nat) (h:i < l.length)=> fix_step (at_of l h))
 have hsz:=sb_size l
 have HB0:=Lib.hid (Bld.fresh w)
 obtain ⟨w1,hw1⟩:∃w1,w1=w.alloc (.cells #[.pointer none, .slice none 0 0] 78):=⟨_,rfl⟩
 have HW1:=Lib.hid hw1
 have hs1:w1.heap.size=w.heap.size+1:=by rw [hw1,World.size_alloc]
 have HS1:=Lib.hid hs1
 have HST:=Lib.hid (show FSt w w.heap.size (w.heap.size+1) l [] 0 (w1.iter (sb l) 0)from ⟨⟨by rw [hw1];exact (Bld.fresh w).alloc _,by have h:=World.iter_heap w1 (sb l) 0;rw [hs1]at h;exact h,by omega,by rw [hw1];exact ((Below.refl _ w).alloc (Nat.le_refl _) _).alloc (by rw [World.size_alloc];omega) _⟩,by rw [List.drop_zero];rfl,by simp⟩)
 clear hs1
 go_enter Tryz.func26,Tryz.ntmps26
 go_wp2_with fail
 rw [←hw1]
 clear hw1
 go_loopg [] l.length (fun g wx=> ∃(pos:Nat) (acc:List UInt8),pos+g=l.length∧Hid (FSt w w.heap.size (w.heap.size+1) l acc pos wx))
 case atStart=> exact ⟨0,[],by omega,HST⟩
 case round=>
  clear HST HB0
  obtain ⟨pos,acc,hpg,HS⟩:=hrel
  have hit:=HS.out.mid.it
  cases gk with
  | zero=>
   obtain rfl:pos=l.length:=by omega
   have hnx:=fun ty=> Lib.run_next_end_at (P:=Tryz.prog) wr (w.heap.size+1) (sb l) l.length ty hit (by rw [hsz];omega)
   have HF:=Lib.hid (show acc=fixF l from by
    have h:=HS.out.fix
    rw [List.drop_length,fix_nil,List.append_nil]at h
    exact h)
   have HL:=Lib.hid HS.out.mid.low
   have HLT:=Lib.hid HS.out.mid.lt
   have HO:=Lib.hid (bld_out HS.out.mid.bld HS.out.mid.lt)
   clear hit HS HD HT HQ hsz
   rw [HF.out]at HO
   generalize sb l=S at*
   go_wp2_with fail
   refine HO.out.mono ?_
   rintro e w3 ⟨rfl,B3⟩
   have HB3:=Lib.hid (HL.out.trans B3)
   clear B3 HO
   have HOW:=Lib.hid (own_laid w3 ⟨4,[],fixF l,0⟩)
   have HBW:=Lib.hid (below_alloc' w3 (.cells #[.int .i64 4, .string (sb []), .string (sb (fixF l)), .int .i64 0] 72))
   clear hnx
   generalize sb (fixF l)=F at*
   go_wp2_with (with_reducible refine jo_build1 rfl _ rfl 4 ⟨#[]⟩ F 0 rfl ?_)
   go_ret
   exact ⟨_,rfl,Lib.hid ⟨HOW.out.mono HB3.out.size,HB3.out.trans (HBW.out.mono HB3.out.size)⟩⟩
  | succ g=>
   have hlt:pos < l.length:=by omega
   have hd:=HD.out pos hlt
   have T:=HT.out pos hlt
   have hq:=HQ.out pos hlt
   have hnx:=fun ty=> Lib.run_next_any_at (P:=Tryz.prog) wr (w.heap.size+1) (sb l) pos ty hit (by rw [hsz];exact hlt)
   rw [hd]at hnx
   obtain ⟨n,j,hnj⟩:∃n j,orBad (charF (l[pos]::l.drop (pos+1)))=(n,j):=⟨_,_,rfl⟩
   rw [hnj]at T hq hnx
   dsimp only at T hq hnx
   have hj:=T.pos
   have hjl:=T.le
   have HN:=Lib.hid (fun (w':World) (m:Mid w w.heap.size (w.heap.size+1) l (acc++bytesF n) (pos+j) w')=> show FSt w w.heap.size (w.heap.size+1) l (acc++bytesF n) (pos+j) w' from ⟨m,by rw [List.append_assoc,←hq,HS.out.fix],by
    have h1:=HS.out.len
    have h2:=bytes_len n
    rw [List.length_append]
    omega⟩)
   have HM2:=Lib.hid (HS.out.mid.next (pos+j))
   have HLEN:=Lib.hid (show acc.length≤100000000000 by have:=HS.out.len;omega)
   have HT1:=Lib.hid T.ok
   clear hd hq HD HT HQ hnj T HS hit
   generalize hw2:wr.iterAt (w.heap.size+1) (sb l) (pos+j)=w2 at hnx HM2
   go_wp2_with fail
   refine (bld_rune HM2.out.bld HLEN.out HM2.out.lt HT1.out).mono ?_
   rintro e w3 ⟨⟨v3,rfl⟩,B3⟩
   have HM3:=Lib.hid (HN.out w3 (HM2.out.wrote B3))
   clear B3 HM2 hnx hw2
   go_wp2_with fail
   go_roundg (g+1 - j)
   case measure=> omega
   case rel=> exact ⟨pos+j,_,by omega,HM3⟩
end Go.Proofs.YtgmangikcfakgaaGreatDoor
namespace Go.Proofs.YtgmangikcfakgaaGreatDoor
open Go.RowKit Sh Jt Js Jo
structure StrsAt (w:World) (A:Option Addr) (n c:Nat) (ks:List (List UInt8)):Prop where
 len:ks.length=n
 cap:n≤c
 at_:0 < n→∃b o,A=some ⟨b,o,none⟩∧b < w.heap.size∧w.rangeAt b o (ks.map fun k=> Value.string (sb k))
theorem StrsAt.below {w w':World} {A:Option Addr} {n c:Nat} {ks:List (List UInt8)} (h:StrsAt w A n c ks) (hb:Below w.heap.size w w'):StrsAt w' A n c ks:=
 ⟨h.len,h.cap,fun h0=> by
  obtain ⟨b,o,e,hlt,hr⟩:=h.at_ h0
  exact ⟨b,o,e,Nat.lt_of_lt_of_le hlt hb.size,rangeAt_kept hr (kept_below hb) (fun h=> h)⟩⟩
theorem StrsAt.cell {w:World} {A:Option Addr} {n c:Nat} {ks:List (List UInt8)} (h:StrsAt w A n c ks) {j:Nat} (hj:j < ks.length):∃b o,A=some ⟨b,o,none⟩∧w.cell? ⟨b,o+j,none⟩=some (.string (sb ks[j])):=by
 obtain ⟨b,o,e,hlt,hr⟩:=h.at_ (by have:=h.len;omega)
 exact ⟨b,o,e,hr j _ (by rw [List.getElem?_map,List.getElem?_eq_getElem hj];rfl)⟩
namespace Jo
theorem all_drop {Q:List Pc} {j:Nat} (h:j < Q.length):(rowsOf (Q.drop j)).all rightPF=(rightPF Q[j].row && (rowsOf (Q.drop (j+1))).all rightPF):=by
 rw [List.drop_eq_getElem_cons h]
 rfl
def halfO (ks:List (List UInt8)) (P:List (List V)) (j:Nat):List V:=⟨6,[],[],P.length⟩::((List.zipWith named (ks.take j) (P.take j)).flatten++(P.drop j).flatten)
theorem half_zero (ks:List (List UInt8)) (P:List (List V)):halfO ks P 0=⟨6,[],[],P.length⟩::P.flatten:=rfl
theorem half_all {ks:List (List UInt8)} {P:List (List V)} (h:ks.length=P.length):halfO ks P P.length=objF ks P:=by
 unfold halfO objF
 rw [List.take_length,←h,List.take_length,h,List.drop_length,List.flatten_nil,List.append_nil]
theorem half_len {ks:List (List UInt8)} {P:List (List V)} (h:ks.length=P.length) (j:Nat):(halfO ks P j).length=1+P.flatten.length:=by
 have e:P.flatten.length=(P.take j).flatten.length+(P.drop j).flatten.length:=by
  conv=> lhs;rw [←List.take_append_drop j P,List.flatten_append,List.length_append]
 unfold halfO
 rw [List.length_cons,List.length_append,zip_flat (by rw [List.length_take,List.length_take,h]),e]
 omega
theorem half_next {ks:List (List UInt8)} {P:List (List V)} (h:ks.length=P.length) {j:Nat} (hj:j < P.length) (hp:0 < P[j].length):keyAt (1+offs P j) (ks[j]'(by omega)) (halfO ks P j)=halfO ks P (j+1):=by
 have hz:(List.zipWith named (ks.take j) (P.take j)).flatten.length=offs P j:=zip_flat (by rw [List.length_take,List.length_take,h])
 have e1:(ks.take (j+1))=ks.take j++[ks[j]'(by omega)]:=List.take_succ_eq_append_getElem (by omega)
 have e2:(P.take (j+1))=P.take j++[P[j]]:=List.take_succ_eq_append_getElem hj
 have e3:(List.zipWith named (ks.take (j+1)) (P.take (j+1))).flatten=(List.zipWith named (ks.take j) (P.take j)).flatten++named (ks[j]'(by omega)) P[j]:=by
  rw [e1,e2,List.zipWith_append (by rw [List.length_take,List.length_take,h]),List.flatten_append]
  simp
 unfold keyAt halfO
 rw [e3,Nat.add_comm 1,List.take_succ_cons,List.drop_succ_cons,List.take_left' hz,List.drop_left' hz,List.drop_eq_getElem_cons hj,List.flatten_cons,named_app _ hp,List.cons_append,List.append_assoc]
theorem half_short {m:Nat} {ks:List (List UInt8)} {P:List (List V)} (hP:∀p∈P,Short m p) (hk:∀k∈ks,k.length≤m):Short m (objF ks P):=by
 intro v hv
 unfold objF at hv
 rcases List.mem_cons.1 hv with rfl | hv
 ·exact ⟨Nat.zero_le _,Nat.zero_le _⟩
 ·obtain ⟨q,hq,hvq⟩:=List.mem_flatten.1 hv
  obtain ⟨i,hi,rfl⟩:=List.getElem_of_mem hq
  rw [List.getElem_zipWith]at hvq
  exact short_named (hP _ (List.getElem_mem _)) (hk _ (List.getElem_mem _)) v hvq
theorem list_short {m:Nat} {P:List (List V)} (hP:∀p∈P,Short m p):Short m (listF P):=by
 intro v hv
 rcases List.mem_cons.1 hv with rfl | hv
 ·exact ⟨Nat.zero_le _,Nat.zero_le _⟩
 ·obtain ⟨q,hq,hvq⟩:=List.mem_flatten.1 hv
  exact hP q hq v hvq
end Jo
set_option maxRecDepth 100000 in
set_option maxHeartbeats 4000000 in
theorem jo_list (w:World) (A:Option Addr) (n c:Nat) (Q:List Pc) (hQ:SlsAt w A n c Q) (hn:n≤4000) (hs:∀p∈Q,Short 1000000000 p.row) (hl:(rowsOf Q).flatten.length≤4000) (hT:TabOk w):
  Calls Tryz.prog 48 #[.slice A n c] w fun e w'=> ∃v',e= .returned v'∧Hid (OwnVals w' w.heap.size v' (listA (rowsOf Q))∧Below w.heap.size w w'):=by
 have hlen:=hQ.len
 have HQ:=Lib.hid hQ
 have HLE:=Lib.hid (fun j=> Nat.le_trans (rows_le Q j) hl)
 have HTK:=Lib.hid (fun (h:Q.length≤n)=> show Q.take n=Q from List.take_of_length_le h)
 have HDR:=Lib.hid (fun (h:Q.length≤n)=> show Q.drop n=[]from List.drop_of_length_le h)
 obtain ⟨RV,hRV⟩:∃RV,RV=listA (rowsOf Q):=⟨_,rfl⟩
 rw [←hRV]
 have HRV:=Lib.hid (show RV=if (rowsOf (Q.drop 0)).all rightPF=true then fineF (listF (rowsOf Q)) else []from hRV)
 have HLS:=Lib.hid (list_short (P:=rowsOf Q) (m:=1000000000) (fun p hp=> by
  obtain ⟨q,hq,rfl⟩:=List.mem_map.1 hp
  exact hs q hq))
 have HSH:=Lib.hid hs
 have HT:=Lib.hid hT
 have HPL:=Lib.hid (show (rowsOf Q).length=n by unfold rowsOf;rw [List.length_map];exact hlen)
 have HOW:=Lib.hid (own_laid w ⟨5,[],[],n⟩)
 have HB0:=Lib.hid (below_alloc' w (.cells #[.int .i64 5, .string (sb []), .string (sb []), .int .i64 n] 72))
 have hn9:(n:Int)≤4000:=by omega
 clear hQ hRV hl hs hT
 go_enter Tryz.func48,Tryz.ntmps48
 go_wp2_with (with_reducible refine jo_build1 rfl _ rfl 5 ⟨#[]⟩ ⟨#[]⟩ n rfl ?_)
 go_loopg [3,12] n (fun g v3 v12 wx=> ∃j x gb k:Nat,v3= .slice (some ⟨gb,0,none⟩) (x+1) k∧v12= .int .i64 (j:Int)∧j+g=n∧x≤4000∧Hid (x=(rowsOf (Q.take j)).flatten.length)∧Hid (RV=if (rowsOf (Q.drop j)).all rightPF=true then fineF (listF (rowsOf Q)) else [])∧Hid (OwnVals wx w.heap.size (.slice (some ⟨gb,0,none⟩) (x+1) k) (⟨5,[],[],n⟩::(rowsOf (Q.take j)).flatten)∧Below w.heap.size w wx))
 case atStart=> exact ⟨0,0,_,1,rfl,rfl,by omega,by omega,Lib.hid rfl,HRV,Lib.hid ⟨HOW.out,HB0.out⟩⟩
 case round=>
  clear HRV HOW HB0
  obtain ⟨j,x,gb,k,rfl,rfl,hjg,hx4,HX,HRV,HH⟩:=hrel
  cases gk with
  | zero=>
   obtain rfl:j=n:=by omega
   have hge:¬(j:Int) < (j:Int):=by omega
   have HD2:=Lib.hid (HDR.out (by omega))
   have HT2:=Lib.hid (HTK.out (by omega))
   rw [HD2.out]at HRV
   rw [HT2.out]at HH HX
   have HRV2:Hid (RV=fineF (⟨5,[],[],j⟩::(rowsOf Q).flatten)):=Lib.hid (by rw [HRV.out];unfold listF;rw [HPL.out];rfl)
   have HSY:Hid (Short 1000000000 (⟨5,[],[],j⟩::(rowsOf Q).flatten)):=Lib.hid (by have h:=HLS.out;unfold listF at h;rw [HPL.out]at h;exact h)
   have HI:=Lib.hid (jo_ifRight wr (some ⟨gb,0,none⟩) (x+1) k _ HH.out.1.at_.1 (by omega) HSY.out (HT.out.below HH.out.2))
   clear HRV HSY HX HD2 HT2
   unfold fineF at HRV2
   generalize rightPF (⟨5,[],[],j⟩::(rowsOf Q).flatten)=RY at*
   have HLE2:=Lib.hid HH.out.2.size
   cases RY with
   | true=>
    go_wp2_with fail
    refine HI.out.mono ?_
    rintro e w7 ⟨rfl,HB8⟩
    clear HI
    go_wp2_with fail
    go_ret
    exact ⟨_,rfl,Lib.hid ⟨by rw [HRV2.out];exact HH.out.1.below HB8.out,HH.out.2.trans (HB8.out.mono HLE2.out)⟩⟩
   | false=>
    go_wp2_with fail
    refine HI.out.mono ?_
    rintro e w7 ⟨rfl,HB8⟩
    clear HI
    go_wp2_with fail
    go_ret
    exact ⟨_,rfl,Lib.hid ⟨by rw [HRV2.out];exact OwnVals.nil _ _,HH.out.2.trans (HB8.out.mono HLE2.out)⟩⟩
  | succ g=>
   have hj:j < Q.length:=by omega
   obtain ⟨b,o,rfl,cc⟩:=(HQ.out.below HH.out.2).cell hj
   have HV:=Lib.hid ((HQ.out.below HH.out.2).ins _ (List.getElem_mem hj))
   have HN:=Lib.hid (rows_next Q hj)
   have hle:=HLE.out (j+1)
   rw [HN.out,List.length_append,←HX.out]at hle
   have HA:=Lib.hid (all_drop hj)
   have HS:=Lib.hid (HSH.out _ (List.getElem_mem hj))
   have hjn:(j:Int) < (n:Int):=by omega
   unfold Pc.enc at cc
   generalize Q[j]=p at*
   obtain ⟨pa,pc,prow⟩:=p
   dsimp only at*
   have HLN:=Lib.hid (show prow.length=prow.length from rfl)
   obtain ⟨pl,hpl⟩:∃pl,pl=prow.length:=⟨_,rfl⟩
   rw [←hpl]at cc hle
   have HPLN:=Lib.hid hpl
   rw [←hpl]at HV
   clear hpl HLN
   have hng:¬(5000:Int) - ((x:Int)+1) < (pl:Int):=by omega
   have hdg:decide ((5000:Int) - ((x:Int)+1) < (pl:Int))=false:=decide_eq_false hng
   have HR:=Lib.hid (js_right wr pa pl pc prow HV.out (by omega) HS.out (HT.out.below HH.out.2))
   cases hr:rightPF prow with
   | false=>
    rw [hr]at HR
    have HRV2:Hid (RV=[]):=Lib.hid (by rw [HRV.out,HA.out,hr];rfl)
    have HLE2:=Lib.hid HH.out.2.size
    clear HRV HA hr HV HS HN HX
    go_wp2_with fail
    refine HR.out.mono ?_
    rintro e w4 ⟨rfl,HB4⟩
    clear HR
    go_wp2_with fail
    go_ret
    exact ⟨_,rfl,Lib.hid ⟨by rw [HRV2.out];exact OwnVals.nil _ _,HH.out.2.trans (HB4.out.mono HLE2.out)⟩⟩
   | true=>
    rw [hr]at HR
    have HRV2:Hid (RV=if (rowsOf (Q.drop (j+1))).all rightPF=true then fineF (listF (rowsOf Q)) else []):=Lib.hid (by rw [HRV.out,HA.out,hr,Bool.true_and])
    have hp0:=(right_end hr).2.1
    obtain ⟨b3,o3,rfl,_,_⟩:=HV.out.at_ (by rw [HPLN.out];exact hp0)
    have HX2:Hid (x+pl=(rowsOf (Q.take (j+1))).flatten.length):=Lib.hid (by rw [HN.out,List.length_append,HX.out,HPLN.out])
    clear HRV HA hr HS hp0
    go_wp2_with fail
    refine HR.out.mono ?_
    rintro e w4 ⟨rfl,HB4⟩
    clear HR
    have HOW:=Lib.hid (HH.out.1.below HB4.out)
    have HVW:=Lib.hid (HV.out.below HB4.out)
    have HBW:=Lib.hid (HH.out.2.trans (HB4.out.mono HH.out.2.size))
    have HSZ:=Lib.hid HBW.out.size
    have HLL:Hid ((⟨5,[],[],n⟩::(rowsOf (Q.take j)).flatten:List V).length=x+1):=Lib.hid (by rw [List.length_cons,←HX.out])
    clear HH HV HB4
    have HL9:=Lib.hid hle
    clear hle
    have HL5:Hid (((⟨5,[],[],n⟩::(rowsOf (Q.take j)).flatten:List V)++prow).length=x+pl+1):=Lib.hid (by rw [List.length_append,HLL.out,HPLN.out];omega)
    go_wp2_with (at_builtin;go_must (with_reducible refine append_vals rfl _ _ rfl w.heap.size (.slice (some ⟨gb,0,none⟩) (x+1) k) (⟨5,[],[],n⟩::(rowsOf (Q.take j)).flatten) rfl HOW.out ⟨b3,o3,none⟩ pl pc prow rfl HVW.out (by rw [HLL.out];have:=HL9.out;omega) HSZ.out ?_;intro v5 w5 h1 h2 h3;have hg5:=h1.out.got (by rw [HL5.out];omega);rw [HL5.out]at hg5;obtain ⟨g5,k5,rfl, -⟩:=hg5))
    rw [List.cons_append,←HN.out]at h1
    go_roundg g
    case measure=> omega
    case rel=> exact ⟨j+1,x+pl,g5,k5,rfl,by go_num,by omega,by have:=HL9.out;omega,HX2,HRV2,Lib.hid ⟨h1.out,HBW.out.trans (below_of_kept h2.out HSZ.out (fun i hi e=> by omega))⟩⟩
end Go.Proofs.YtgmangikcfakgaaGreatDoor
