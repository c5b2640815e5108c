import Derived.Test.YtmkjcleecjjchaaGreatDoorP24
import Derived.Test.YtmkjcleecjjchaaGreatDoorP25
import Derived.Test.YtmkjcleecjjchaaGreatDoorP26
import Derived.Deep.RegionLaw
import Derived.Test.YtmkjcleecjjchaaGreatDoorP28
namespace Go.Proofs.YtmkjcleecjjchaaGreatDoor
open Go.RowKit Sh Jt Js Jo
namespace Jo
theorem dv_cells (d:Desc) (h:d.dig.length=32):(dv d)[0]? =some (.string (sb d.media))∧(dv d)[33]? =some (.int .i64 d.size)∧∀j v,(d.dig.map v8)[j]? =some v→(dv d)[1+j]? =some v:=by
 refine ⟨rfl, ?_,fun j v hj=> ?_⟩
 ·unfold dv
  rw [List.getElem?_cons_succ,List.getElem?_append_right (by rw [List.length_map,h];exact Nat.le_refl _),List.length_map,h]
  rfl
 ·unfold dv
  rw [Nat.add_comm,List.getElem?_cons_succ,List.getElem?_append_left (List.getElem?_eq_some_iff.1 hj).1]
  exact hj
theorem row_bad {d:Desc} (h:validF d.media=false∨sizeOk d.size=false):rowD d=[]:=by
 refine rowD_no ?_
 unfold okD
 rcases h with h | h <;> rw [h]
 ·rfl
 ·rw [Bool.and_false]
theorem row_good {d:Desc} (h1:validF d.media=true) (h2:sizeOk d.size=true):rowD d=objA [mediaK,digK,sizeK] [[⟨4,[],fixF d.media,0⟩],[⟨4,[],fixF (Dg.text d.dig),0⟩],[⟨3,[],textF d.size,0⟩]]:=by
 unfold rowD okD
 rw [h1,h2]
 rfl
end Jo
structure BoxD (W:World) (B:Nat) (d:Desc):Prop where
 row:Row W B 27 (dv d)
 dig:d.dig.length=32
theorem BoxD.below {W W':World} {B:Nat} {d:Desc} (h:BoxD W B d) (k:Below W.heap.size W W'):BoxD W' B d:=⟨h.row.below k h.row.lt,h.dig⟩
theorem BoxD.c0 {W:World} {B:Nat} {d:Desc} (h:BoxD W B d):W.cell? ⟨B,0,none⟩=some (.string (sb d.media)):=h.row.cell (dv_cells d h.dig).1
theorem BoxD.c33 {W:World} {B:Nat} {d:Desc} (h:BoxD W B d):W.cell? ⟨B,33,none⟩=some (.int .i64 d.size):=h.row.cell (dv_cells d h.dig).2.1
theorem BoxD.arr {W:World} {B:Nat} {d:Desc} (h:BoxD W B d):W.rangeAt B 1 (d.dig.map v8):=fun j v hj=> h.row.cell ((dv_cells d h.dig).2.2 j v hj)
theorem BoxD.st {W:World} {B:Nat} {d:Desc} (h:BoxD W B d) {w:World} (hb:Below w.heap.size w W) {S:ByteArray} {N:Int} {G:List Value} (hs:S=sb d.media) (hn:N=d.size) (hg:d.dig.map v8=G):
  W.cell? ⟨B,0,none⟩=some (.string S)∧W.cell? ⟨B,33,none⟩=some (.int .i64 N)∧W.rangeAt B 1 G∧Below w.heap.size w W:=by
 subst hs hn hg
 exact ⟨h.c0,h.c33,h.arr,hb⟩
theorem step_callN {w:World} {ops:Array Oper} {o:Oper} {a:Act} {K:Act→World→Prop} {Q:Exit→Act→World→Prop} {E:Prop} (hg:o.guard=none) (f:FuncId) (args:Array Value) (hrun:(execOp a.eval o).run Tryz.prog w= .ok (.enter f args) w) {R:Ending→World→Prop}
  (hc:Calls Tryz.prog f args w R) (h:∀e w',R e w'→∃v,e= .returned v∧K (a.put o.dst v) w'):if Region.wanted o (yielded ops a.tmps)=true then Oper.wp Tryz.prog o a w K Q else E:=by
 rw [if_pos (by simp [Region.wanted,hg])]
 exact js_enterP f args hrun hc h
theorem StrsAt.new3 (w:World) (a b c:List UInt8):StrsAt (w.alloc (.cells #[.string (sb a), .string (sb b), .string (sb c)] 9)) (some ⟨w.heap.size,0,none⟩) 3 3 [a,b,c]:=by
 have r:=Row.new w 9 [.string (sb a), .string (sb b), .string (sb c)]
 exact ⟨rfl,Nat.le_refl _,fun _=> ⟨_,0,rfl,r.lt,r.range 0 _ (fun j v hj=> by rw [Nat.zero_add];exact hj)⟩⟩
theorem SlsAt.new3 (w:World) {a b e:Addr} {n m k c d f:Nat} {L M N:List V} (hL:ValsAt w (some a) n c L) (hM:ValsAt w (some b) m d M) (hN:ValsAt w (some e) k f N):SlsAt (w.alloc (.cells #[.slice (some a) n c, .slice (some b) m d, .slice (some e) k f] 29)) (some ⟨w.heap.size,0,none⟩) 3 3 [⟨some a,c,L⟩,⟨some b,d,M⟩,⟨some e,f,N⟩]:=by
 have h1:=hL.len
 have h2:=hM.len
 have h3:=hN.len
 refine SlsAt.new w [⟨some a,c,L⟩,⟨some b,d,M⟩,⟨some e,f,N⟩] (fun p hp=> ?_) _ (by rw [List.map_cons,List.map_cons,List.map_cons,List.map_nil];unfold Pc.enc;dsimp only;rw [h1,h2,h3]) 3 rfl
 simp only [List.mem_cons,List.not_mem_nil,or_false]at hp
 rcases hp with rfl | rfl | rfl
 ·dsimp only;rw [h1];exact hL
 ·dsimp only;rw [h2];exact hM
 ·dsimp only;rw [h3];exact hN
theorem short_three {a b c:Pc} (ha:Short 1000000000 a.row) (hb:Short 1000000000 b.row) (hc:Short 1000000000 c.row):∀p∈[a,b,c],Short 1000000000 p.row:=fun p hp=> by
 simp only [List.mem_cons,List.not_mem_nil,or_false]at hp
 rcases hp with rfl | rfl | rfl
 ·exact ha
 ·exact hb
 ·exact hc
theorem keys_three:∀k∈[mediaK,digK,sizeK],k.length≤1000000000:=by decide
theorem short_one {k n:Int} {t:List UInt8} (h:t.length≤1000000000):Short 1000000000 [⟨k,[],t,n⟩]:=fun v hv=> by
 rw [List.mem_singleton.1 hv]
 exact ⟨Nat.zero_le _,h⟩
set_option maxRecDepth 100000 in
set_option maxHeartbeats 8000000 in
theorem mt_descRow (w:World) (d:Desc) (hd:d.dig.length=32) (hm:d.media.length≤1000000000) (h0: -9223372036854775808≤d.size) (h1:d.size≤9223372036854775807) (hE:MEnv w):
  Calls Tryz.prog 73 #[.agg (dv d).toArray] w fun e w'=> ∃v',e= .returned v'∧Hid (OwnVals w' w.heap.size v' (rowD d)∧Below w.heap.size w w'):=by
 have HE:=Lib.hid hE
 obtain ⟨X,hX⟩:∃X,X=rowD d:=⟨_,rfl⟩
 rw [←hX]
 have HX:=Lib.hid hX
 have HG:=Lib.hid (row_good (d:=d))
 have HBD:=Lib.hid (row_bad (d:=d))
 have HBX:=Lib.hid (show BoxD (w.alloc (.cells (dv d).toArray 27)) w.heap.size d from ⟨Row.new _ _ _,hd⟩)
 have HB0:=Lib.hid (below_alloc' w (.cells (dv d).toArray 27))
 clear hE hX
 go_enter Tryz.func73,Tryz.ntmps73
 go_upto_region 1 with fail
 generalize w.alloc (.cells (dv d).toArray 27)=w0 at*
 have c0:=HBX.out.c0
 have HV:=Lib.hid (valid_sb d.media (by omega) w0 (HE.out.below HB0.out).j.tab)
 have HS:=Lib.hid (fun W=> mt_isSize W d.size h0 h1)
 obtain ⟨S,hS⟩:∃S,S=sb d.media:=⟨_,rfl⟩
 rw [←hS]at c0 HV
 have HSS:=Lib.hid hS
 clear hS
 go_wp2_with fail
 refine HV.out.mono ?_
 rintro e w1 ⟨rfl,K1⟩
 have HB1:=Lib.hid (HB0.out.trans (K1.mono HB0.out.size))
 have HX1:=Lib.hid (HBX.out.below K1)
 clear HV HBX HB0 K1 c0
 cases hv:validF d.media with
 | false=>
  have hx:X=[]:=by rw [HX.out];exact HBD.out (.inl hv)
  subst hx
  clear hv
  go_wp2_with fail
  go_ret
  exact ⟨_,rfl,Lib.hid ⟨OwnVals.nil _ _,HB1.out⟩⟩
 | true=>
  have c33:=HX1.out.c33
  obtain ⟨N,hN⟩:∃N,N=d.size:=⟨_,rfl⟩
  rw [←hN]at c33 HS
  have HNN:=Lib.hid hN
  clear hN
  go_wp2_with fail
  refine (HS.out w1).mono ?_
  rintro e w2 ⟨rfl,rfl⟩
  clear HS c33
  cases hz:sizeOk N with
  | false=>
   have hx:X=[]:=by rw [HX.out];exact HBD.out (.inr (by rw [←HNN.out];exact hz))
   subst hx
   clear hv hz
   go_wp2_with fail
   go_ret
   exact ⟨_,rfl,Lib.hid ⟨OwnVals.nil _ _,HB1.out⟩⟩
  | true=>
   have HX2:=Lib.hid (HX.out.trans (HG.out hv (by rw [←HNN.out];exact hz)))
   have HFM:=Lib.hid (fix_same _ hv)
   clear hv hz HG HBD HX
   go_upto_region 4 with fail
   have HK0:=Lib.hid (StrsAt.new3 w2 mediaK digK sizeK)
   have KA:=Lib.hid (below_alloc' w2 (.cells #[.string (sb mediaK), .string (sb digK), .string (sb sizeK)] 9))
   change Hid (StrsAt (w2.alloc (.cells #[.string ⟨#[109,101,100,105,97,84,121,112,101]⟩, .string ⟨#[100,105,103,101,115,116]⟩, .string ⟨#[115,105,122,101]⟩] 9)) _ _ _ _)at HK0
   change Hid (Below _ w2 (w2.alloc (.cells #[.string ⟨#[109,101,100,105,97,84,121,112,101]⟩, .string ⟨#[100,105,103,101,115,116]⟩, .string ⟨#[115,105,122,101]⟩] 9)))at KA
   generalize w2.alloc (.cells #[.string ⟨#[109,101,100,105,97,84,121,112,101]⟩, .string ⟨#[100,105,103,101,115,116]⟩, .string ⟨#[115,105,122,101]⟩] 9)=w3 at*
   have HK3:=Lib.hid (show StrsAt w3.drew _ 3 3 [mediaK,digK,sizeK]from HK0.out.below (below_drewN (Below.refl _ _) 1))
   have HB3:=Lib.hid (show Below w.heap.size w w3.drew from below_drewN (HB1.out.trans (KA.out.mono HB1.out.size)) 1)
   have HX3:=Lib.hid (show BoxD w3.drew w.heap.size d from (HX1.out.below KA.out).below (below_drewN (Below.refl _ _) 1))
   generalize w2.heap.size=ks at*
   clear HK0 KA HB1 HX1
   have HK:=HK3
   have HB:=HB3
   have HX:=HX3
   clear HK3 HB3 HX3
   have HNB:Hid (-9223372036854775808≤N∧N≤9223372036854775807):=Lib.hid (by rw [HNN.out];exact ⟨h0,h1⟩)
   have HT1:=Lib.hid (fun W=> show Calls _ 25 #[.string S] W _ from by rw [HSS.out];exact own_form (L:=[⟨4,[],fixF d.media,0⟩]) (n:=1) rfl (by decide) (jo_text W d.media hm))
   have HTL:=Lib.hid (Dg.text_length d.dig)
   have HPR:=Lib.hid (fun W=> print_any d.dig hd W)
   change Hid (∀W,Calls _ _ _ _ fun e w'=> e= .returned (.string (sb (Dg.text d.dig)))∧_)at HPR
   have HT2:=Lib.hid (fun W=> own_form (L:=[⟨4,[],fixF (Dg.text d.dig),0⟩]) (n:=1) rfl (by decide) (jo_text W (Dg.text d.dig) (by rw [HTL.out,hd];decide)))
   have HIN:=Lib.hid (fun W (h:JEnv W)=> own_form (L:=[⟨3,[],textF N,0⟩]) (n:=1) rfl (by decide) (jo_int W N HNB.out.1 HNB.out.2 h))
   have hbl:=run_build_sls3
   obtain ⟨GV,hGV⟩:∃GV,d.dig.map v8=GV:=⟨_,rfl⟩
   have HGV:=Lib.hid hGV
   rw [hGV]at HPR
   have hu:=Tryz.underlying25
   have hi:(Tryz.prog.info? 25).map (·.size)=some GV.length:=by rw [←hGV,List.length_map,hd];kernel_rfl
   have HKP:=Lib.hid (HX.out.st HB.out HSS.out HNN.out HGV.out)
   obtain ⟨TB,hTB⟩:∃TB,TB=sb (Dg.text d.dig):=⟨_,rfl⟩
   rw [←hTB]at HPR HT2
   have hfx:(fixF d.media).length≤1000000000∧(fixF (Dg.text d.dig)).length≤1000000000∧(textF N).length≤1000000000:=by
    have:=textF_len HNB.out.1 HNB.out.2
    refine ⟨by rw [HFM.out];exact hm, ?_,by omega⟩
    rw [fix_same _ (text_valid _),HTL.out,hd]
    decide
   have HFX:=Lib.hid hfx
   clear hGV hTB hfx
   go_region_held3 (fun x=> x.cell? ⟨w.heap.size,0,none⟩=some (.string S)∧x.cell? ⟨w.heap.size,33,none⟩=some (.int .i64 N)∧x.rangeAt w.heap.size 1 GV∧Below w.heap.size w x) (first | exact HKP.out | exact (HX.out.below (below_alloc _ _)).st (HB.out.trans ((below_alloc _ _).mono HB.out.size)) HSS.out HNN.out HGV.out) (first
    | (go_at_call 110;go_must (refine (HPR.out _).mono ?_;rintro e wn ⟨rfl,HH⟩;have HBL:=Lib.hid (HH);have HB:=Lib.hid (HB.out.trans (HBL.out.mono HB.out.size));have HK:=Lib.hid (HK.out.below HBL.out);have HX:=Lib.hid (HX.out.below HBL.out);have HKP:=Lib.hid (HX.out.st HB.out HSS.out HNN.out HGV.out);(try have HV1:=Lib.hid (HV1.out.below HBL.out));(try have HV2:=Lib.hid (HV2.out.below HBL.out));(try have HV3:=Lib.hid (HV3.out.below HBL.out));clear HBL;clear HH))
    | (go_at_call 24;go_must (refine (HIN.out _ (HE.out.below HB.out).j).mono ?_;rintro e wn ⟨g3,k3,rfl,HH⟩;have HBL:=Lib.hid (HH.out.2.2);have HB:=Lib.hid (HB.out.trans (HBL.out.mono HB.out.size));have HK:=Lib.hid (HK.out.below HBL.out);have HX:=Lib.hid (HX.out.below HBL.out);have HKP:=Lib.hid (HX.out.st HB.out HSS.out HNN.out HGV.out);(try have HV1:=Lib.hid (HV1.out.below HBL.out));(try have HV2:=Lib.hid (HV2.out.below HBL.out));(try have HV3:=Lib.hid (HV3.out.below HBL.out));clear HBL;have HV3:=Lib.hid HH.out.2.1;clear HH))
    | (go_at_call 25;first
     | (with_reducible refine (HT1.out _).mono ?_;rintro e wn ⟨g1,k1,rfl,HH⟩;have HBL:=Lib.hid (HH.out.2.2);have HB:=Lib.hid (HB.out.trans (HBL.out.mono HB.out.size));have HK:=Lib.hid (HK.out.below HBL.out);have HX:=Lib.hid (HX.out.below HBL.out);have HKP:=Lib.hid (HX.out.st HB.out HSS.out HNN.out HGV.out);(try have HV1:=Lib.hid (HV1.out.below HBL.out));(try have HV2:=Lib.hid (HV2.out.below HBL.out));(try have HV3:=Lib.hid (HV3.out.below HBL.out));clear HBL;have HV1:=Lib.hid HH.out.2.1;clear HH)
     | (with_reducible refine (HT2.out _).mono ?_;rintro e wn ⟨g2,k2,rfl,HH⟩;have HBL:=Lib.hid (HH.out.2.2);have HB:=Lib.hid (HB.out.trans (HBL.out.mono HB.out.size));have HK:=Lib.hid (HK.out.below HBL.out);have HX:=Lib.hid (HX.out.below HBL.out);have HKP:=Lib.hid (HX.out.st HB.out HSS.out HNN.out HGV.out);(try have HV1:=Lib.hid (HV1.out.below HBL.out));(try have HV2:=Lib.hid (HV2.out.below HBL.out));(try have HV3:=Lib.hid (HV3.out.below HBL.out));clear HBL;have HV2:=Lib.hid HH.out.2.1;clear HH))
    | (go_at_call 23;go_must (refine (own_any rfl (jo_object _ _ 3 3 _ (HK.out.below (below_alloc _ _)) (by decide) (keys_three) _ 3 3 _ (SlsAt.new3 _ HV1.out HV2.out HV3.out) (by decide) (short_three (short_one HFX.out.1) (short_one HFX.out.2.1) (short_one HFX.out.2.2)) (Nat.le_of_ble_eq_true rfl) (HE.out.below (HB.out.trans ((below_alloc _ _).mono HB.out.size))).j.tab)).mono ?_;rintro e wn ⟨A9,c9,rfl,HH⟩;have HR:=Lib.hid (HH.out.1.mono (Nat.le_trans HB.out.size (below_alloc _ _).size));have HB:=Lib.hid (HB.out.trans (((below_alloc _ _).trans (HH.out.2.2.mono (below_alloc _ _).size)).mono HB.out.size));have HX:=Lib.hid ((HX.out.below (below_alloc _ _)).below HH.out.2.2);have HKP:=Lib.hid (HX.out.st HB.out HSS.out HNN.out HGV.out);clear HH)))
   go_wp2_with fail
   go_ret
   exact ⟨_,rfl,Lib.hid ⟨by rw [HX2.out,←HNN.out];exact HR.out,HB.out⟩⟩
end Go.Proofs.YtmkjcleecjjchaaGreatDoor
namespace Go.Proofs.YtmkjcleecjjchaaGreatDoor
open Go.RowKit Sh Jt Js
set_option maxRecDepth 100000 in
set_option maxHeartbeats 4000000 in
theorem mt_equal (w:World) (A1 A2:Option Addr) (n1 c1 n2 c2:Nat) (L M:List V) (hL:ValsAt w A1 n1 c1 L) (hM:ValsAt w A2 n2 c2 M) (hn:n1≤140737488351232) (hn2:n2≤140737488351232):
  Calls Tryz.prog 108 #[.slice A1 n1 c1, .slice A2 n2 c2] w fun e w'=> e= .returned (.bool (decide (L=M)))∧∃m,w'=w.drewN m:=by
 have HL:=Lib.hid hL
 have HM:=Lib.hid hM
 have hlen:=hL.len
 have hlen2:=hM.len
 clear hL hM
 by_cases hne:n1=n2
 ·subst hne
  go_enter Tryz.func108,Tryz.ntmps108
  go_wp2_with fail
  go_loopw [13] (fun i wr=> ∃k m:Nat,k≤n1∧i= .int .i64 k∧Hid (L.take k=M.take k)∧wr=w.drewN m) (fun i _=> n1 - (intOf i).toNat)
  case atStart=> exact ⟨0,0,Nat.zero_le _,rfl,Lib.hid rfl,rfl⟩
  case round=>
   obtain ⟨k,m,hk,rfl,HO,rfl⟩:=hrel
   by_cases hlt:k < n1
   ·obtain ⟨b,o,rfl,hbl,_⟩:=HL.out.at_ (by omega)
    obtain ⟨b2,o2,rfl,hbl2,_⟩:=HM.out.at_ (by omega)
    have hkl:k < L.length:=by omega
    have hkm:k < M.length:=by omega
    obtain ⟨x0,x1,x2,x3⟩:=HL.out.cells hkl
    obtain ⟨y0,y1,y2,y3⟩:=HM.out.cells hkm
    have hlt':(k:Int) < (n1:Int):=by omega
    have q1:=js_str_eq L[k].key M[k].key
    have q2:=js_str_eq L[k].text M[k].text
    have HT:=Lib.hid (And.intro (List.take_succ_eq_append_getElem hkl) (List.take_succ_eq_append_getElem hkm))
    have HG:=Lib.hid (show L=M→L[k]=M[k]from fun h=> by subst h;rfl)
    generalize L[k]=p at*
    generalize M[k]=q at*
    by_cases he:p=q
    ·subst he
     have HS:=Lib.hid (show L.take (k+1)=M.take (k+1)by rw [HT.out.1,HT.out.2,HO.out])
     generalize sb p.key=s1 at*
     generalize sb p.text=s2 at*
     generalize p.kind=s3 at*
     generalize p.count=s4 at*
     have hq:∀W,(Op.equalIn 10000 61 (.agg #[.int .i64 s3, .string s1, .string s2, .int .i64 s4]) (.agg #[.int .i64 s3, .string s1, .string s2, .int .i64 s4])).run Tryz.prog W= .ok true W:=fun W=> by
      have:=js_eq W s3 s3 s4 s4 s1 s2 s1 s2
      simpa using this
     clear q1 q2 HT HG
     go_upto_region 6 with fail
     go_quiet (fail)
     rw [World.drewN_drewN]
     go_wp2_with fail
     go_roundw
     case rel=> exact ⟨k+1,m+nq,by omega,by go_num,HS,rfl⟩
     case measure=> simp [intOf] <;> omega
    ·have HN:=Lib.hid (show decide (L=M)=false from decide_eq_false fun h=> he (HG.out h))
     have hz:(((p.kind==q.kind) && ((sb p.key).toList==(sb q.key).toList)) && (((sb p.text).toList==(sb q.text).toList) && (p.count==q.count)))=false:=by
      rw [q1,q2]
      cases h0:(p.kind==q.kind)with
      | false=> rfl
      | true=>
       cases h1:(p.key==q.key)with
       | false=> rfl
       | true=>
        cases h2:(p.text==q.text)with
        | false=> rfl
        | true=>
         cases h3:(p.count==q.count)with
         | false=> rfl
         | true=>
          refine absurd ?_ he
          obtain ⟨a1,a2,a3,a4⟩:=p
          obtain ⟨b1,b2,b3,b4⟩:=q
          obtain rfl:=LawfulBEq.eq_of_beq h0
          obtain rfl:=LawfulBEq.eq_of_beq h1
          obtain rfl:=LawfulBEq.eq_of_beq h2
          obtain rfl:=LawfulBEq.eq_of_beq h3
          rfl
     have hq:∀W,(Op.equalIn 10000 61 (.agg #[.int .i64 p.kind, .string (sb p.key), .string (sb p.text), .int .i64 p.count]) (.agg #[.int .i64 q.kind, .string (sb q.key), .string (sb q.text), .int .i64 q.count])).run Tryz.prog W= .ok false W:=fun W=> by
      rw [js_eq,hz]
     clear q1 q2 HT HG hz
     generalize sb p.key=s1 at*
     generalize sb p.text=s2 at*
     generalize p.kind=s3 at*
     generalize p.count=s4 at*
     generalize sb q.key=s5 at*
     generalize sb q.text=s6 at*
     generalize q.kind=s7 at*
     generalize q.count=s8 at*
     go_upto_region 6 with fail
     go_quiet (fail)
     rw [World.drewN_drewN]
     go_wp2_with fail
     go_ret
     exact ⟨by rw [HN.out];rfl,_,rfl⟩
   ·obtain rfl:k=n1:=by omega
    have HN:Hid (decide (L=M)=true):=Lib.hid (decide_eq_true (by
     have h:=HO.out
     rwa [List.take_of_length_le (by omega),List.take_of_length_le (by omega)]at h))
    have hge:¬(k:Int) < (k:Int):=by omega
    go_wp2_with fail
    go_ret
    exact ⟨by rw [HN.out];rfl,_,rfl⟩
 ·have HN:=Lib.hid (show decide (L=M)=false from decide_eq_false fun h=> hne (by rw [←hlen,←hlen2,h]))
  have hb:((n1:Int) !=(n2:Int))=true:=bne_iff_ne.2 (by omega)
  clear hne
  go_enter Tryz.func108,Tryz.ntmps108
  go_wp2_with fail
  go_ret
  exact ⟨by rw [HN.out];rfl,0,rfl⟩
end Go.Proofs.YtmkjcleecjjchaaGreatDoor
namespace Go.Proofs.YtmkjcleecjjchaaGreatDoor
open Go.RowKit Sh Jt Js Jo
theorem plc_none {o:Option Nat} (h:o=none):plc o= -1:=by rw [h];rfl
theorem plc_some {o:Option Nat} (h:¬o=none):∃p:Nat,plc o=(p:Int):=by
 cases o with
 | none=> exact absurd rfl h
 | some p=> exact ⟨p,rfl⟩
theorem sort_any (w:World) (A:Option Addr) (n c:Nat) (L:List V) (hL:ValsAt w A n c L) (hn:n≤250000) (hs:Short 1000000000 L) (hT:TabOk w):
  Calls Tryz.prog 29 #[.slice A n c] w fun e w'=> ∃val,e= .returned val∧Hid (OwnVals w' w.heap.size val (sortA L)∧Below w.heap.size w w'):=js_sortRow w A n c L hL hn hs hT
set_option maxRecDepth 100000 in
set_option maxHeartbeats 4000000 in
theorem mt_rightRest (w:World) (A:Option Addr) (n c:Nat) (L:List V) (hL:ValsAt w A n c L) (hn:n≤250000) (hs:Short 1000000000 L) (hE:MEnv w):
  Calls Tryz.prog 72 #[.slice A n c] w fun e w'=> e= .returned (.bool (restOk L))∧Hid (Below w.heap.size w w'):=by
 have HH:=Lib.hid (mt_has w A n c L hL hn hs hE.j.tab)
 have HC:=Lib.hid (fun W (q:Below w.heap.size w W)=> jo_get W A n c L (hL.below q) hn hs (hE.j.tab.below q) 0 configK)
 have HY:=Lib.hid (fun W (q:Below w.heap.size w W)=> jo_get W A n c L (hL.below q) hn hs (hE.j.tab.below q) 0 layersK)
 have HS:=Lib.hid (fun W (q:Below w.heap.size w W)=> own_any (L:=sortA L) rfl (sort_any W A n c L (hL.below q) hn hs (hE.j.tab.below q)))
 have hlen:=hL.len
 have hsl:(sortA L).length≤140737488351232:=by
  unfold sortA
  split
  next h=>
   rw [(srt_srt h).2.2]
   omega
  next=> exact Nat.zero_le _
 have HQ:=Lib.hid (fun W (A2:Option Addr) (c2:Nat) (q:Below w.heap.size w W) (h:ValsAt W A2 (sortA L).length c2 (sortA L))=> mt_equal W A2 A (sortA L).length c2 n c (sortA L) L h (hL.below q) hsl (by omega))
 have HR:=Lib.hid (show restOk L=(hasF L && decide (getA L 0 configK=none) && decide (getA L 0 layersK=none) && decide (sortA L=L))from rfl)
 clear hL hs hE hsl
 change Hid (∀W,_→Calls _ _ #[.slice A n c, .int .i64 0, .string ⟨#[99,111,110,102,105,103]⟩] _ _)at HC
 change Hid (∀W,_→Calls _ _ #[.slice A n c, .int .i64 0, .string ⟨#[108,97,121,101,114,115]⟩] _ _)at HY
 generalize restOk L=R at*
 generalize hasF L=b1 at*
 generalize getA L 0 configK=o2 at*
 generalize getA L 0 layersK=o3 at*
 generalize decide (sortA L=L)=b4 at*
 generalize (sortA L).length=sl at*
 go_enter Tryz.func72,Tryz.ntmps72
 go_wp2_with fail
 refine HH.out.mono ?_
 rintro e w1 ⟨rfl,HB1⟩
 clear HH
 cases b1 with
 | false=>
  have HRR:Hid (R=false):=Lib.hid (by rw [HR.out];rfl)
  clear HR
  go_wp2_with fail
  go_ret
  exact ⟨by rw [HRR.out];rfl,HB1⟩
 | true=>
  go_wp2_with fail
  refine (HC.out w1 HB1.out).mono ?_
  rintro e w2 ⟨rfl,K2⟩
  have HB2:=Lib.hid (HB1.out.trans (K2.out.mono HB1.out.size))
  clear HB1 K2 HC
  by_cases h2:o2=none
  ·subst h2
   rw [plc_none rfl]
   go_wp2_with fail
   refine (HY.out w2 HB2.out).mono ?_
   rintro e w3 ⟨rfl,K3⟩
   have HB3:=Lib.hid (HB2.out.trans (K3.out.mono HB2.out.size))
   clear HB2 K3 HY
   by_cases h3:o3=none
   ·subst h3
    rw [plc_none rfl]
    have HRR:Hid (R=b4):=Lib.hid (by rw [HR.out];rfl)
    clear HR
    go_wp2_with fail
    refine (HS.out w3 HB3.out).mono ?_
    rintro e w4 ⟨A2,c2,rfl,K4⟩
    have HB4:=Lib.hid (HB3.out.trans (K4.out.2.2.mono HB3.out.size))
    have HV4:=Lib.hid K4.out.2.1
    clear HB3 K4 HS
    go_wp2_with fail
    refine (HQ.out w4 A2 c2 HB4.out HV4.out).mono ?_
    rintro e w5 ⟨rfl,m,rfl⟩
    have HB5:=Lib.hid (show Below w.heap.size w (w4.drewN m)from below_drewN HB4.out m)
    go_wp2_with fail
    go_ret
    exact ⟨by rw [HRR.out];rfl,HB5⟩
   ·obtain ⟨p,hp⟩:=plc_some h3
    rw [hp]
    have hb:((p:Int)== -1)=false:=beq_eq_false_iff_ne.2 (by omega)
    have HRR:Hid (R=false):=Lib.hid (by rw [HR.out,decide_eq_false h3];simp)
    clear HR h3 hp
    go_wp2_with fail
    go_ret
    exact ⟨by rw [HRR.out];rfl,HB3⟩
  ·obtain ⟨p,hp⟩:=plc_some h2
   rw [hp]
   have hb:((p:Int)== -1)=false:=beq_eq_false_iff_ne.2 (by omega)
   have HRR:Hid (R=false):=Lib.hid (by rw [HR.out,decide_eq_false h2];simp)
   clear HR h2 hp
   go_wp2_with fail
   go_ret
   exact ⟨by rw [HRR.out];rfl,HB2⟩
end Go.Proofs.YtmkjcleecjjchaaGreatDoor
namespace Go.Proofs.YtmkjcleecjjchaaGreatDoor
open Go.RowKit Sh Jt Js Jo
structure OwnSls (w:World) (B:Nat) (v:Value) (Q:List Pc):Prop where
 row:w.ownsRow B 29 1 v Q.length (Q.map Pc.enc)
 ins:∀p∈Q,ValsAt w p.at_ p.row.length p.cap p.row
 far:∀p∈Q,∀b o,p.at_=some ⟨b,o,none⟩→b < w.heap.size∧v.ownBlock≠some b
theorem OwnSls.nil (w:World) (B:Nat):OwnSls w B (.slice none 0 0) []:=⟨⟨rfl, .inl ⟨rfl,rfl⟩⟩,fun p h=> (by cases h),fun p h=> (by cases h)⟩
theorem OwnSls.below {w w':World} {B:Nat} {v:Value} {Q:List Pc} (h:OwnSls w B v Q) (hb:Below w.heap.size w w'):OwnSls w' B v Q:=by
 refine ⟨?_,fun p hp=> (h.ins p hp).below hb,fun p hp b o e=> ⟨Nat.lt_of_lt_of_le (h.far p hp b o e).1 hb.size,(h.far p hp b o e).2⟩⟩
 obtain ⟨hl,h1 | ⟨g,cap,cur,rfl,hg,hh,hn,hc,hs,ht⟩⟩:=h.row
 ·exact ⟨hl, .inl h1⟩
 ·exact ⟨hl, .inr ⟨g,cap,cur,rfl,hg,(hb.block g (Array.getElem?_eq_some_iff.1 hh).1).trans hh,hn,hc,hs,ht⟩⟩
theorem OwnSls.sls {w:World} {B:Nat} {v:Value} {Q:List Pc} (h:OwnSls w B v Q):∃(A:Option Addr) (c:Nat),v= .slice A Q.length c∧SlsAt w A Q.length c Q:=by
 obtain ⟨hl,⟨rfl,h0⟩ | ⟨g,cap,cur,rfl,hg,hh,hn,hc,hs,ht⟩⟩:=h.row
 ·have:Q=[]:=List.eq_nil_of_length_eq_zero h0
  subst this
  exact ⟨none,0,rfl,rfl,Nat.le_refl _,(fun h=> absurd h (by decide)),fun p h=> (by cases h)⟩
 ·have hlt:=(Array.getElem?_eq_some_iff.1 hh).1
  refine ⟨some ⟨g,0,none⟩,cap,rfl,rfl,hn,fun _=> ⟨g,0,rfl,hlt,fun j u hj=> ?_⟩,h.ins⟩
  have hjl:=(List.getElem?_eq_some_iff.1 hj).1
  rw [List.length_map]at hjl
  rw [cell_of_row _ _ _ _ _ _ hh,Nat.zero_add,←hj,←ht,List.getElem?_take,if_pos (by omega)]
  simp
theorem mt_infoS:∃i,Tryz.prog.info? 29=some i∧i.zero=some (.slice none 0 0)∧i.size=1∧i.bytes=24:=by
 have h:(Tryz.prog.info? 29).map (fun i=> (i.zero,i.size,i.bytes))=some (some (.slice none 0 0),1,24):=by kernel_rfl
 obtain ⟨i,hi,hz⟩:=Option.map_eq_some_iff.1 h
 simp only [Prod.mk.injEq]at hz
 exact ⟨i,hi,hz.1,hz.2.1,hz.2.2⟩
theorem run_build_sls1 (W:World) (a:Option Addr) (n c:Nat):(Instr.buildSlice 74 1 #[(0, .slice a n c)]).run Tryz.prog W= .ok (.slice (some ⟨W.heap.size,0,none⟩) 1 1) (W.alloc (.cells #[.slice a n c] 29)):=by
 obtain ⟨i,hi,hz,hsz,_⟩:=mt_infoS
 refine run_buildSlice (P:=Tryz.prog) W 74 29 1 #[(0, .slice a n c)] #[.slice a n c] i _ Tryz.underlying74 hi hz (by rw [hsz];decide) (by rw [hsz];decide) ?_
 rw [hsz]
 rw [show Array.range (1*1)=#[0]from by decide]
 simp [Instr.fill,Value.cells]
theorem append_sls {w:World} {ops:Array Oper} {rest:List Oper} {o:Oper} {a:Act} {Q:Exit→Act→World→Prop} (hg:o.guard=none) (s x:Operand)
  (ho:o.op= .call {callee:= .builtin .append,args:=#[s,x],argTypes:=#[74,74]}) (B:Nat) (v:Value) (P:List Pc) (hs:a.eval s=v) (hown:OwnSls w B v P)
  (q:Nat) (p:Pc) (hx:a.eval x= .slice (some ⟨q,0,none⟩) 1 1) (hcell:w.cell? ⟨q,0,none⟩=some p.enc) (hp:ValsAt w p.at_ p.row.length p.cap p.row) (hfar:∀b o,p.at_=some ⟨b,o,none⟩→b < w.heap.size∧v.ownBlock≠some b) (hb:P.length≤1000000000) (hB:B≤w.heap.size)
  (h:∀v' w',Hid (OwnSls w' B v' (P++[p]))→Hid (Kept w w' (fun k=> B≤k∧v.ownBlock=some k))→wpList Tryz.prog ops Q rest (a.put o.dst v') w'):wpList Tryz.prog ops Q (o::rest) a w:=by
 obtain ⟨i,hi,hz,hsz,hby⟩:=mt_infoS
 have hnews:∀j u,[p.enc][j]? =some u→w.cell? ((⟨q,0,none⟩:Addr).add j)=some u:=by
  intro j u hj
  cases j with
  | zero=>
   rw [Addr.add_mid,←Option.some.inj hj]
   exact hcell
  | succ j=> cases hj
 obtain ⟨v',w',hr,h2,h3,h4,h5⟩:=run_append_own_at (P:=Tryz.prog) w B 74 o.type 29 i (.slice none 0 0) 1 24 Tryz.underlying74 hi hz hsz hby rfl (by decide) v P.length (P.map Pc.enc) hown.row ⟨q,0,none⟩ 1 1 [p.enc]
  rfl hnews (fun v hv=> by rw [List.mem_singleton.1 hv];rfl) (by unfold maxLen;omega) (by omega) hB
 refine wpList_wanted (by simp [Region.wanted,hg]) fun K hK=> ?_
 unfold Oper.wp execOp
 simp only [ho,resolve,invoke,builtin,Sem.run_bind,Sem.run_pure,Result.andThen_ok,List.map_toArray,List.map_cons,List.map_nil,hs,hx,hr]
 have hk:Kept w w' (fun k=> B≤k∧v.ownBlock=some k):=by
  refine ⟨h3.os,h3.tape,h3.output,h3.size,fun k hk hn=> h3.block k hk (fun e=> hn ?_)⟩
  obtain ⟨_,⟨rfl,_⟩ | ⟨g,cap,cur,rfl,hg,_⟩⟩:=hown.row
  ·cases e
  ·have e':g=k:=by simpa [Value.ownBlock] using e.symm
   subst e'
   exact ⟨hg,rfl⟩
 have each:∀r∈P++[p],ValsAt w r.at_ r.row.length r.cap r.row∧∀b o,r.at_=some ⟨b,o,none⟩→b < w.heap.size∧v.ownBlock≠some b:=fun r hr=> by
  rcases List.mem_append.1 hr with hr | hr
  ·exact ⟨hown.ins r hr,hown.far r hr⟩
  ·rw [List.mem_singleton.1 hr]
   exact ⟨hp,hfar⟩
 refine hK _ _ (h v' w' (Lib.hid ⟨?_,fun r hr=> ?_,fun r hr b o e=> ?_⟩) hk)
 ·rw [List.length_append,List.map_append]
  exact h2
 ·exact (each r hr).1.kept hk (fun b o e _ hb=> ((each r hr).2 b o e).2 hb.2)
 ·obtain ⟨f1,f2⟩:=(each r hr).2 b o e
  refine ⟨Nat.lt_of_lt_of_le f1 h3.size,fun e2=> ?_⟩
  rcases h5 with h5 | h5
  ·rw [h5]at e2
   exact f2 e2
  ·rw [h5]at e2
   have:=Option.some.inj e2
   omega
structure BoxM (W:World) (B:Nat) (c:Desc) (a b:Value):Prop where
 row:Row W B 31 (mv c a b)
 dig:c.dig.length=32
theorem BoxM.below {W W':World} {B:Nat} {c:Desc} {a b:Value} (h:BoxM W B c a b) (k:Below W.heap.size W W'):BoxM W' B c a b:=⟨h.row.below k h.row.lt,h.dig⟩
theorem BoxM.c34 {W:World} {B:Nat} {c:Desc} {a b:Value} (h:BoxM W B c a b):W.cell? ⟨B,34,none⟩=some a:=h.row.cell (mv_at h.dig a b).1
theorem BoxM.c35 {W:World} {B:Nat} {c:Desc} {a b:Value} (h:BoxM W B c a b):W.cell? ⟨B,35,none⟩=some b:=h.row.cell (mv_at h.dig a b).2
theorem BoxM.desc {W:World} {B:Nat} {c:Desc} {a b:Value} (h:BoxM W B c a b):W.rangeAt B 0 (dv c):=fun j v hj=> by
 rw [Nat.zero_add]
 refine h.row.cell ?_
 unfold mv
 rw [List.getElem?_append_left (List.getElem?_eq_some_iff.1 hj).1]
 exact hj
theorem BoxM.st {W:World} {B:Nat} {c:Desc} {a b:Value} (h:BoxM W B c a b) {w0:World} (hb:Below w0.heap.size w0 W):W.cell? ⟨B,35,none⟩=some b∧W.rangeAt B 0 (dv c)∧Below w0.heap.size w0 W:=⟨h.c35,h.desc,hb⟩
structure ManIn (w:World) (m:Man) (A1:Option Addr) (n1 c1:Nat) (A2:Option Addr) (n2 c2:Nat):Prop where
 lay:DescsAt w A1 n1 c1 m.layers
 rest:ValsAt w A2 n2 c2 m.rest
 dig:m.config.dig.length=32
theorem ManIn.below {w w':World} {m:Man} {A1:Option Addr} {n1 c1:Nat} {A2:Option Addr} {n2 c2:Nat} (h:ManIn w m A1 n1 c1 A2 n2 c2) (k:Below w.heap.size w w'):ManIn w' m A1 n1 c1 A2 n2 c2:=⟨h.lay.below k,h.rest.below k,h.dig⟩
theorem ManIn.digs {w:World} {m:Man} {A1:Option Addr} {n1 c1:Nat} {A2:Option Addr} {n2 c2:Nat} (h:ManIn w m A1 n1 c1 A2 n2 c2):DigM m:=⟨h.dig,h.lay.dig⟩
namespace Jo
def FitD (d:Desc):Prop:=d.media.length≤1048576∧ -9223372036854775808≤d.size∧d.size≤9223372036854775807
structure FitM (m:Man):Prop where
 config:FitD m.config
 layers:∀d∈m.layers,FitD d
 rest:Short 1048576 m.rest
 few:m.rest.length≤250000
theorem short_row {d:Desc} (h:FitD d) (hd:d.dig.length=32):Short 1048576 (rowD d):=by
 cases ho:okD d with
 | false=>
  rw [rowD_no ho]
  exact fun v hv=> by cases hv
 | true=>
  rw [rowD_is ho]
  have ht:=Dg.text_length d.dig
  have hn:=textF_len h.2.1 h.2.2
  intro v hv
  unfold descV kidsD at hv
  simp only [List.mem_cons,List.not_mem_nil,or_false]at hv
  rcases hv with rfl | rfl | rfl | rfl
  ·exact ⟨Nat.zero_le _,Nat.zero_le _⟩
  ·exact ⟨(show mediaK.length≤1048576 by decide),h.1⟩
  ·refine ⟨(show digK.length≤1048576 by decide), ?_⟩
   show (Dg.text d.dig).length≤1048576
   omega
  ·refine ⟨(show sizeK.length≤1048576 by decide), ?_⟩
   show (textF d.size).length≤1048576
   omega
theorem row_few (d:Desc):(rowD d).length≤4:=by
 cases ho:okD d with
 | false=> rw [rowD_no ho];exact Nat.zero_le _
 | true=> rw [rowD_is ho];exact Nat.le_refl _
theorem rows_few:∀L:List Desc,(L.map rowD).flatten.length≤4*L.length
 | []=> Nat.le_refl _
 | d::L=> by
  have:=row_few d
  have:=rows_few L
  rw [List.map_cons,List.flatten_cons,List.length_append,List.length_cons]
  omega
theorem short_list {P:List (List V)} {k:Nat} (h:∀p∈P,Short k p):Short k (listA P):=by
 unfold listA fineF
 split
 ·split
  ·exact list_short h
  ·exact fun v hv=> by cases hv
 ·exact fun v hv=> by cases hv
theorem setA_few (L X:List V) (key:List UInt8):(setA L key X).length≤5000:=by
 by_cases h:0 < (setA L key X).length
 ·obtain ⟨_,_,h2,e⟩:=set_inv h
  rw [e]
  exact right_short h2
 ·omega
theorem listA_few (P:List (List V)):(listA P).length≤5000:=by
 unfold listA fineF
 split
 ·split
  next h=> exact right_short h
  next=> exact Nat.zero_le _
 ·exact Nat.zero_le _
theorem row_yes {m:Man} (h:restOk m.rest=true) (hl:m.layers.length≤60):rowM m=sortA (setA (setA m.rest configK (rowD m.config)) layersK (listA (m.layers.map rowD))):=if_pos ⟨h,hl⟩
theorem row_not {m:Man} (h:restOk m.rest=false∨60 < m.layers.length):rowM m=[]:=by
 refine if_neg fun h2=> ?_
 rcases h with h | h
 ·rw [h2.1]at h;cases h
 ·omega
end Jo
end Go.Proofs.YtmkjcleecjjchaaGreatDoor
namespace Go.Proofs.YtmkjcleecjjchaaGreatDoor
open Go.RowKit Sh Jt Js Jo
structure RowsSo (w0 wx:World) (v:Value) (L:List Desc) (Q:List Pc):Prop where
 own:OwnSls wx w0.heap.size v Q
 rows:rowsOf Q=L.map rowD
 below:Below w0.heap.size w0 wx
theorem RowsSo.next {w0 wx wy:World} {v:Value} {L:List Desc} {Q:List Pc} (h:RowsSo w0 wx v L Q) (k:Below wx.heap.size wx wy):RowsSo w0 wy v L Q:=⟨h.own.below k,h.rows,h.below.trans (k.mono h.below.size)⟩
theorem OwnSls.lt {w:World} {B:Nat} {v:Value} {Q:List Pc} (h:OwnSls w B v Q) {k:Nat} (hk:v.ownBlock=some k):k < w.heap.size:=by
 obtain ⟨_,⟨rfl,_⟩ | ⟨g,cap,cur,rfl,hg,hh,_⟩⟩:=h.row
 ·cases hk
 ·have e':g=k:=by simpa [Value.ownBlock] using hk
  subst e'
  exact (Array.getElem?_eq_some_iff.1 hh).1
theorem own_far {w wn:World} {B B2:Nat} {v:Value} {Q:List Pc} (h:OwnSls w B v Q) {A:Option Addr} {n c:Nat} {L:List V} (o:OwnVals wn B2 (.slice A n c) L) (hs:w.heap.size≤B2) {m:Nat} (hm:wn.heap.size≤m):∀b off,A=some ⟨b,off,none⟩→b < m∧v.ownBlock≠some b:=by
 intro b off e
 obtain ⟨A',c',e1,_,_,h2,_⟩:=o.vals
 simp only [Value.slice.injEq]at e1
 obtain ⟨rfl,_,_⟩:=e1
 obtain ⟨g,e2,hg,hg2⟩:=h2 _ e
 simp only [Addr.mk.injEq]at e2
 obtain ⟨rfl,_,_⟩:=e2
 refine ⟨by omega,fun e3=> ?_⟩
 have:=h.lt e3
 omega
set_option maxRecDepth 100000 in
set_option maxHeartbeats 20000000 in
theorem mt_row (w:World) (m:Man) (A1:Option Addr) (n1 c1:Nat) (A2:Option Addr) (n2 c2:Nat) (hM:ManIn w m A1 n1 c1 A2 n2 c2) (hn1:n1≤140737488351232) (hF:FitM m) (hE:MEnv w):
  Calls Tryz.prog 40 #[.agg (mv m.config (.slice A1 n1 c1) (.slice A2 n2 c2)).toArray] w fun e w'=> ∃v',e= .returned v'∧Hid (OwnVals w' w.heap.size v' (rowM m)∧Below w.heap.size w w'):=by
 obtain ⟨X,hX⟩:∃X,X=rowM m:=⟨_,rfl⟩
 rw [←hX]
 have hlen:=hM.lay.len
 have hlen2:=hM.rest.len
 have hfew:=hF.few
 have HM:=Lib.hid (fun W (q:Below w.heap.size w W)=> hM.below q)
 have HE:=Lib.hid (fun W (q:Below w.heap.size w W)=> hE.below q)
 have HF:=Lib.hid hF
 have HX:=Lib.hid hX
 have HBX:=Lib.hid (show BoxM (w.alloc (.cells (mv m.config (.slice A1 n1 c1) (.slice A2 n2 c2)).toArray 31)) w.heap.size m.config (.slice A1 n1 c1) (.slice A2 n2 c2)from ⟨Row.new _ _ _,hM.dig⟩)
 have HB0:=Lib.hid (below_alloc' w (.cells (mv m.config (.slice A1 n1 c1) (.slice A2 n2 c2)).toArray 31))
 have hdc:=hM.dig
 clear hM hE hF hX
 go_enter Tryz.func40,Tryz.ntmps40
 go_upto_region 1 with fail
 generalize w.alloc (.cells (mv m.config (.slice A1 n1 c1) (.slice A2 n2 c2)).toArray 31)=w0 at*
 generalize (mv m.config (.slice A1 n1 c1) (.slice A2 n2 c2)).toArray=MV at*
 have HBF:=Lib.hid (fun W (q:Below w0.heap.size w0 W)=> HBX.out.below q)
 have c34:=HBX.out.c34
 have c35:=HBX.out.c35
 have HRR:=Lib.hid (mt_rightRest w0 A2 n2 c2 m.rest (HM.out w0 HB0.out).rest (by omega) (short_more HF.out.rest (by decide)) (HE.out w0 HB0.out))
 go_wp2_with fail
 refine HRR.out.mono ?_
 rintro e w1 ⟨rfl,K1⟩
 have HB1:=Lib.hid (HB0.out.trans (K1.out.mono HB0.out.size))
 have HBX1:=Lib.hid (HBX.out.below K1.out)
 have HQ1:=Lib.hid (K1.out)
 have HB00:=HB0
 clear c34 c35 HRR K1 HBX HB0
 have c34:=HBX1.out.c34
 have c35:=HBX1.out.c35
 cases hr:restOk m.rest with
 | false=>
  have hx:X=[]:=by rw [HX.out];exact row_not (.inl hr)
  subst hx
  clear hr
  go_wp2_with fail
  go_ret
  exact ⟨_,rfl,Lib.hid ⟨OwnVals.nil _ _,HB1.out⟩⟩
 | true=>
  by_cases h60:60 < n1
  ·have hx:X=[]:=by rw [HX.out];exact row_not (.inr (by rw [hlen];exact h60))
   subst hx
   clear hr
   have hg:(60:Int) < (n1:Int):=by omega
   go_wp2_with fail
   go_ret
   exact ⟨_,rfl,Lib.hid ⟨OwnVals.nil _ _,HB1.out⟩⟩
  ·have hg:¬(60:Int) < (n1:Int):=by omega
   have hgd:decide ((60:Int) < (n1:Int))=false:=decide_eq_false hg
   have HXX:=Lib.hid (HX.out.trans (row_yes hr (by rw [hlen];omega)))
   have hfr:m.rest.length≤5000:=by
    obtain ⟨P,hP,_⟩:=rest_is hr
    exact right_short hP.right
   clear hr HX
   go_upto_region 5 with fail
   have hB0:∀W,Below w0.heap.size w0 W→Below w.heap.size w W:=fun W k=> HB00.out.trans (k.mono HB00.out.size)
   have HBB:=Lib.hid hB0
   clear hB0
   go_loopg [3,20] n1 (fun g v3 v20 wx=> ∃(j:Nat) (Q:List Pc),v20= .int .i64 (j:Int)∧j+g=n1∧Hid (Q.length=j)∧Hid (RowsSo w0 wx v3 (m.layers.take j) Q))
   case atStart=> exact ⟨0,[],rfl,by omega,Lib.hid rfl,Lib.hid ⟨OwnSls.nil _ _,rfl,HQ1.out⟩⟩
   case round=>
    clear HB1 HBX1 HQ1 c34 c35
    obtain ⟨j,Q,rfl,hjg,HQL,HH⟩:=hrel
    cases gk with
    | zero=>
     obtain rfl:j=n1:=by omega
     have hall:m.layers.take j=m.layers:=List.take_of_length_le (by omega)
     rw [hall]at HH
     obtain ⟨A3,k3,rfl,hsl⟩:=HH.out.own.sls
     rw [HQL.out]at hsl
     change Hid (RowsSo w0 wr (.slice A3 Q.length k3) m.layers Q)at HH
     have HSL:=Lib.hid hsl
     have HRO:=Lib.hid HH.out.rows
     have HBW:=Lib.hid HH.out.below
     clear hsl hall HH
     rw [HQL.out]
     have hge:¬(j:Int) < (j:Int):=by omega
     have HDC:=Lib.hid (fun W (q:Below w.heap.size w W)=> own_any rfl (mt_descRow W m.config hdc (Nat.le_trans HF.out.config.1 (by decide)) HF.out.config.2.1 HF.out.config.2.2 (HE.out W q)))
     have HDG:=Lib.hid (HM.out w (Below.refl _ _)).digs
     have hQs:∀p∈Q,Short 1048576 p.row:=fun p hp=> by
      have h1:p.row∈rowsOf Q:=List.mem_map.2 ⟨p,hp,rfl⟩
      rw [HRO.out]at h1
      obtain ⟨d,hd,e⟩:=List.mem_map.1 h1
      rw [←e]
      exact short_row (HF.out.layers d hd) (HDG.out.layers d hd)
     have hQf:(rowsOf Q).flatten.length≤4000:=by
      have:=rows_few m.layers
      rw [HRO.out]
      omega
     have hsc:=short_row HF.out.config hdc
     have hrf:=row_few m.config
     have HQS:=Lib.hid hQs
     have HSC:=Lib.hid hsc
     have HSA:=Lib.hid (short_setA HF.out.rest hsc (key:=configK) (by decide))
     have HSB:=Lib.hid (short_list (P:=rowsOf Q) (k:=1048576) (fun p hp=> by
      obtain ⟨q,hq,rfl⟩:=List.mem_map.1 hp
      exact hQs q hq))
     have HSR:=Lib.hid HF.out.rest
     have hu:=Tryz.underlying27
     have hi:(Tryz.prog.info? 27).map (·.size)=some (dv m.config).length:=dv_size hdc
     generalize hDV:dv m.config=DC at*
     have HDV:=Lib.hid hDV
     clear hDV hQs hsc
     go_upto_region 9 with fail
     have HBD:=Lib.hid (show Below w0.heap.size w0 wr.drew from below_drewN HBW.out 1)
     have HSL:=Lib.hid (show SlsAt wr.drew A3 j k3 Q from HSL.out.below (below_drewN (Below.refl _ _) 1))
     have HKF:=Lib.hid (fun W (q:Below w0.heap.size w0 W)=> show W.cell? ⟨w.heap.size,35,none⟩=some (.slice A2 n2 c2)∧W.rangeAt w.heap.size 0 DC∧Below w0.heap.size w0 W from by have h:=(HBF.out W q).st q;rw [HDV.out]at h;exact h)
     have HKP:=Lib.hid (HKF.out _ HBD.out)
     refine wp_region_noPanic ?_
     refine wp_region_held_drew (S:=fun x=> x.cell? ⟨w.heap.size,35,none⟩=some (.slice A2 n2 c2)∧x.rangeAt w.heap.size 0 DC∧Below w0.heap.size w0 x) (by kernel_rfl) HKP.out (fun hHeld=> ?_)
     refine wpAnyH_take (i:=0) (v:= .pointer (some ⟨w.heap.size,35,none⟩)) rfl (by kernel_rfl) (by kernel_rfl) (by kernel_rfl) (fun _ _ _ h=> h) (Or.inl ⟨by rfl, ?_⟩) hHeld ?_
     ·intro x hx;obtain ⟨hx,_,_⟩:=hx;go_simp
     simp only [Act.put,List.setIfInBounds_toArray]
     refine wpAnyH_take (i:=2) (v:= .pointer (some ⟨w.heap.size,0,none⟩)) rfl (by kernel_rfl) (by kernel_rfl) (by kernel_rfl) (fun _ _ _ h=> h) (Or.inl ⟨by rfl, ?_⟩) hHeld ?_
     ·intro x hx;obtain ⟨hx,_,_⟩:=hx;go_simp
     simp only [Act.put]
     refine wpAnyH_take (i:=1) (v:= .slice A2 n2 c2) rfl (by kernel_rfl) (by kernel_rfl) (by kernel_rfl) (fun _ _ _ h=> h) (Or.inl ⟨by rfl, ?_⟩) hHeld ?_
     ·intro x hx;obtain ⟨hx,_,_⟩:=hx;go_simp
     simp only [Act.put]
     refine wpAnyH_take (i:=3) (v:= .agg DC.toArray) rfl (by kernel_rfl) (by kernel_rfl) (by kernel_rfl) (fun _ _ _ h=> h) (yieldsIf_load_mid (by rfl) _ _ rfl _ _ rfl _ _ (fun x hx=> hx.2.1) hu rfl hi) hHeld ?_
     simp only [Act.put]
     refine wpAnyH_ready (rs:=[4]) (by kernel_rfl) (by simp) ?_
     refine AllReadyH.cons rfl (fun K hK=> ?_) AllReadyH.nil
     refine step_callN rfl 73 #[.agg DC.toArray] (by first | rfl | kernel_rfl) (HDC.out _ (HBB.out _ HBD.out)) ?_
     rintro e wn ⟨A4,k4,rfl,HH⟩
     have HBE:=Lib.hid (HBD.out.trans (HH.out.2.2.mono HBD.out.size))
     have HSM:=Lib.hid (HSL.out.below HH.out.2.2)
     have HV4:=Lib.hid HH.out.2.1
     refine ⟨_,rfl, ?_⟩
     refine hK.out _ _ (HKF.out _ HBE.out) (fun hHeld=> ?_)
     clear hK K HH HSL HBD HKP
     simp only [Act.put]
     refine wpAnyH_ready (rs:=[5]) (by kernel_rfl) (by simp) ?_
     refine AllReadyH.cons rfl (fun K hK=> ?_) AllReadyH.nil
     refine step_callN rfl 20 #[.slice A2 n2 c2, .string (sb configK), .slice A4 (rowD m.config).length k4] (by first | rfl | kernel_rfl) (own_any rfl (jo_set _ A2 n2 c2 m.rest (HM.out _ (HBB.out _ HBE.out)).rest (by omega) (short_more HSR.out (by decide)) (HE.out _ (HBB.out _ HBE.out)).j.tab A4 _ k4 (rowD m.config) HV4.out (by omega) (short_more HSC.out (by decide)) configK (by decide))) ?_
     rintro e w6 ⟨A6,k6,rfl,HH⟩
     have HBN:=Lib.hid (HBE.out.trans (HH.out.2.2.mono HBE.out.size))
     have HSLN:=Lib.hid (HSM.out.below HH.out.2.2)
     have HVN:=Lib.hid HH.out.2.1
     refine ⟨_,rfl, ?_⟩
     refine hK.out _ _ (HKF.out _ HBN.out) (fun hHeld=> ?_)
     clear hK K HH HSM HBE HV4
     simp only [Act.put]
     refine wpAnyH_take (i:=6) (v:= .slice A6 (setA m.rest configK (rowD m.config)).length k6) rfl (by kernel_rfl) (by kernel_rfl) (by kernel_rfl) (fun _ _ _ h=> h) (Or.inl ⟨by rfl, ?_⟩) hHeld ?_
     ·intro x hx;go_simp
     simp only [Act.put]
     refine wpAnyH_done (by kernel_rfl) ?_ _
     refine NoPanic.normal ?_
     have HXR:Hid (X=sortA (setA (setA m.rest configK (rowD m.config)) layersK (listA (rowsOf Q)))):=Lib.hid (by rw [HXX.out,HRO.out])
     clear HXX HRO
     have hA6:=setA_few m.rest (rowD m.config) configK
     generalize setA m.rest configK (rowD m.config)=SA at*
     go_wp2_with fail
     refine (own_any rfl (jo_list w6 A3 j k3 Q HSLN.out (by omega) (fun p hp=> short_more (HQS.out p hp) (by decide)) hQf (HE.out _ (HBB.out _ HBN.out)).j.tab)).mono ?_
     rintro e w7 ⟨A7,k7,rfl,H7⟩
     have HB7:=Lib.hid (HBN.out.trans (H7.out.2.2.mono HBN.out.size))
     have HV6':=Lib.hid (HVN.out.below H7.out.2.2)
     have HV7:=Lib.hid H7.out.2.1
     have hA7:=listA_few (rowsOf Q)
     clear H7 HSLN HVN HBN
     generalize listA (rowsOf Q)=LQ at*
     go_wp2_with fail
     refine (own_any rfl (jo_set w7 A6 _ k6 SA HV6'.out (by omega) (short_more HSA.out (by decide)) (HE.out _ (HBB.out _ HB7.out)).j.tab A7 _ k7 LQ HV7.out (by omega) (short_more HSB.out (by decide)) layersK (by decide))).mono ?_
     rintro e w8 ⟨A8,k8,rfl,H8⟩
     have HB8:=Lib.hid (HB7.out.trans (H8.out.2.2.mono HB7.out.size))
     have HV8:=Lib.hid H8.out.2.1
     have hA8:=setA_few SA LQ layersK
     have HSZ:=Lib.hid (short_setA HSA.out HSB.out (key:=layersK) (by decide))
     clear H8 HB7 HV7 HV6'
     generalize setA SA layersK LQ=SB at*
     go_wp2_with fail
     refine (sort_any w8 A8 _ k8 SB HV8.out (by omega) (short_more HSZ.out (by decide)) (HE.out _ (HBB.out _ HB8.out)).j.tab).mono ?_
     rintro e w9 ⟨val,rfl,H9⟩
     go_wp2_with fail
     go_ret
     exact ⟨_,rfl,Lib.hid ⟨by rw [HXR.out];exact H9.out.1.mono (HBB.out _ HB8.out).size,HBB.out _ (HB8.out.trans (H9.out.2.mono HB8.out.size))⟩⟩
    | succ g=>
     have hj:j < m.layers.length:=by omega
     have HMW:=Lib.hid (HM.out wr (HBB.out wr HH.out.below))
     have HEW:=Lib.hid (HE.out wr (HBB.out wr HH.out.below))
     obtain ⟨b,o,rfl,hb,_⟩:=HMW.out.lay.at_ (by omega)
     have HON:=Lib.hid (HMW.out.lay.one hj)
     have HDD:=Lib.hid (HMW.out.lay.dig _ (List.getElem_mem hj))
     have HFD:=Lib.hid (HF.out.layers _ (List.getElem_mem hj))
     have HNX:=Lib.hid (show m.layers.take (j+1)=m.layers.take j++[m.layers[j]]from List.take_succ_eq_append_getElem hj)
     generalize m.layers[j]=d at*
     have hjn:(j:Int) < (n1:Int):=by omega
     have hjp:(0:Int)≤(j:Int):=by omega
     have HDA:=Lib.hid (dv_all d)
     have HDZ:=Lib.hid (dv_size HDD.out)
     have HDL:=Lib.hid (dv_len HDD.out)
     have HRW:=Lib.hid (fun W (q:Below w.heap.size w W)=> own_any rfl (mt_descRow W d HDD.out (Nat.le_trans HFD.out.1 (by decide)) HFD.out.2.1 HFD.out.2.2 (HE.out W q)))
     have hb1:=run_build_sls1
     generalize hDV:dv d=DV at*
     clear hDV
     go_upto_region 7 with (first
      | ((with_reducible refine load_all ?_ 27 (.tmp 22) ?_ b (o+j*34) DV DV.toArray ?_ _ ?_ Tryz.underlying27 ?_ ?_ ?_ ?_);rfl;rfl;go_must (rfl;exact HON.out;rfl;exact HDZ.out;rfl))
      | ((with_reducible refine store_all ?_ 27 (.tmp 5) (.tmp 23) ?_ wr.heap.size DV ?_ ?_ (dv noD) ?_ ?_ ?_ ?_ ?_);rfl;rfl;go_must (rfl;rfl;(rw [HDL.out];rfl);exact Row.at_ _ _ _ rfl rfl;exact HDZ.out;exact HDA.out;intro w4 R4 K4 E4)))
     have KB4:=Lib.hid (show Below wr.heap.size wr w4 from (kept_stored K4.out).below (Nat.le_refl _) (fun _ _ h=> h))
     have HS4:=Lib.hid (HH.out.next KB4.out)
     have HRD:=Lib.hid (HRW.out w4 (HBB.out w4 HS4.out.below))
     have HRG:=Lib.hid (rangeAt_row R4.out)
     have HSZ4:=Lib.hid KB4.out.size
     clear K4 E4 KB4 R4 HON HRW HEW HMW
     generalize hrd:rowD d=RD at*
     have HRDD:=Lib.hid hrd
     clear hrd
     go_wp2_with ((with_reducible refine load_all ?_ 27 (.tmp 5) ?_ wr.heap.size 0 DV DV.toArray ?_ _ ?_ Tryz.underlying27 ?_ ?_ ?_ ?_);rfl;rfl;go_must (rfl;exact HRG.out;rfl;exact HDZ.out;rfl))
     refine HRD.out.mono ?_
     rintro e w5 ⟨A5,k5,rfl,H5⟩
     have HS5:=Lib.hid (HS4.out.next H5.out.2.2)
     have HFA:=Lib.hid (own_far HS4.out.own H5.out.1 (Nat.le_refl _) (Nat.le_refl _))
     have HV5:=Lib.hid H5.out.2.1
     clear HRD HRG H5 HDA HDZ
     have HRL:=Lib.hid (rfl:RD.length=RD.length)
     go_wp2_with (at_builtin;go_must (with_reducible refine append_sls rfl _ _ rfl w0.heap.size u3 Q rfl (HS5.out.own.below (below_alloc _ _)) w5.heap.size ⟨A5,k5,RD⟩ rfl ((Row.new w5 29 [.slice A5 RD.length k5]).cell rfl) (HV5.out.below (below_alloc _ _)) (fun b o e=> ⟨Nat.lt_of_lt_of_le (HFA.out b o e).1 (below_alloc _ _).size,(HFA.out b o e).2⟩) (by rw [HQL.out];omega) (Nat.le_trans HS5.out.below.size (below_alloc _ _).size) ?_;intro v6 w6 h1 h2))
     go_roundg g
     case measure=> omega
     case rel=> exact ⟨j+1,Q++[⟨A5,k5,RD⟩],by go_num,by omega,Lib.hid (by rw [List.length_append,HQL.out];rfl),Lib.hid ⟨h1.out,by unfold rowsOf;rw [List.map_append,HNX.out,List.map_append,←HS5.out.rows];show rowsOf Q++[RD]=rowsOf Q++[rowD d];rw [HRDD.out],below_own (HS5.out.below.trans ((below_alloc _ _).mono HS5.out.below.size)) h2.out⟩⟩
end Go.Proofs.YtmkjcleecjjchaaGreatDoor
namespace Go.Proofs.YtmkjcleecjjchaaGreatDoor
open Go.RowKit Sh Jt Js Jo
theorem bytes_mono {w:World} {B B':Nat} {v:Value} {bs:List UInt8} (h:OwnBytes w B v bs) (hB:B'≤B):OwnBytes w B' v bs:=by
 obtain ⟨hl,h1 | ⟨g,cap,cur,rfl,hg,rest⟩⟩:=h
 ·exact ⟨hl, .inl h1⟩
 ·exact ⟨hl, .inr ⟨g,cap,cur,rfl,Nat.le_trans hB hg,rest⟩⟩
theorem mt_sort_mem:∀(f d:Nat) (o:Bool) (v:V) (l:List V) (t:List UInt8),l.length+1≤f→One d o v l t→∀x∈sortF f (v::l),x∈v::l:=by
 intro f
 induction f with
 | zero=> intro d o v l t h;omega
 | succ f ih=>
  intro d o v l t hf h x hx
  obtain ⟨s1,_,_,_⟩:=sort_ordP (f:=f) h (by omega)
  rw [s1]at hx
  rcases List.mem_cons.1 hx with rfl | hx
  ·exact List.mem_cons_self
  ·obtain ⟨q,hq,hxq⟩:=List.mem_flatten.1 hx
   obtain ⟨p,hp,rfl⟩:=List.mem_map.1 hq
   have hp2:=(ordP_perm v l).mem_iff.1 hp
   obtain ⟨v2,l2,t2,rfl,o2,hle⟩:=part_one h p hp2
   have:=ih (d+1) (isObj v) v2 l2 t2 (by rw [List.length_cons]at hle;omega) o2 x hxq
   exact List.mem_cons_of_mem _ (((own_ends (own_endP h)).2 _ hp2).2 x this)
theorem short_sortA {k:Nat} {L:List V} (h:Short k L):Short k (sortA L):=by
 unfold sortA
 split
 next hr=>
  obtain ⟨t,ht⟩:=(prog_is L).1 hr
  obtain ⟨v,r,t1,rfl,h1,_⟩:=row_one' ht
  exact fun x hx=> h x (mt_sort_mem _ 0 false v r t1 (Nat.le_refl _) h1 x hx)
 next=> exact fun v hv=> by cases hv
theorem short_rowM {m:Man} (h:FitM m) (hd:DigM m):Short 1048576 (rowM m):=by
 unfold rowM
 split
 ·refine short_sortA (short_setA (short_setA h.rest (short_row h.config hd.config) (by decide)) (short_list fun p hp=> ?_) (by decide))
  obtain ⟨d,hm,rfl⟩:=List.mem_map.1 hp
  exact short_row (h.layers d hm) (hd.layers d hm)
 ·exact fun v hv=> by cases hv
theorem rowM_few (m:Man):(rowM m).length≤5000:=by
 rcases row_ok m with h | ⟨_,h⟩
 ·rw [h];exact Nat.zero_le _
 ·exact right_short h
namespace Jo
def rightM (m:Man):Bool:=decide (0 < (rowM m).length)
theorem rightM_no {m:Man} (h:rowM m=[]):rightM m=false:=by unfold rightM;rw [h];rfl
theorem rightM_yes {m:Man} {t:List UInt8} (h:Js.Row (rowM m) t):rightM m=true:=by
 have:=((right_end ((prog_is _).2 ⟨t,h⟩)).2.1)
 exact decide_eq_true this
end Jo
set_option maxRecDepth 100000 in
set_option maxHeartbeats 4000000 in
theorem mt_right (w:World) (m:Man) (A1:Option Addr) (n1 c1:Nat) (A2:Option Addr) (n2 c2:Nat) (hM:ManIn w m A1 n1 c1 A2 n2 c2) (hn1:n1≤140737488351232) (hF:FitM m) (hE:MEnv w):
  Calls Tryz.prog 15 #[.agg (mv m.config (.slice A1 n1 c1) (.slice A2 n2 c2)).toArray] w fun e w'=> e= .returned (.bool (rightM m))∧Hid (Below w.heap.size w w'):=by
 have HR:=Lib.hid (fun W (q:Below w.heap.size w W)=> own_any rfl (mt_row W m A1 n1 c1 A2 n2 c2 (hM.below q) hn1 hF (hE.below q)))
 have hml:=mv_len hM.dig (.slice A1 n1 c1) (.slice A2 n2 c2)
 have hrow:=Row.new w 31 (mv m.config (.slice A1 n1 c1) (.slice A2 n2 c2))
 have HB0:=Lib.hid (below_alloc' w (.cells (mv m.config (.slice A1 n1 c1) (.slice A2 n2 c2)).toArray 31))
 have HRW:=Lib.hid hrow
 have HML:=Lib.hid hml
 have HX:=Lib.hid (show rightM m=decide (0 < (rowM m).length)from rfl)
 clear hM hF hE hrow hml
 generalize mv m.config (.slice A1 n1 c1) (.slice A2 n2 c2)=MV at*
 generalize rightM m=R at*
 generalize rowM m=X at*
 go_enter Tryz.func15,Tryz.ntmps15
 go_wp2_with ((with_reducible refine load_all ?_ 31 (.tmp 1) ?_ w.heap.size 0 MV MV.toArray ?_ _ ?_ Tryz.underlying31 ?_ ?_ ?_ ?_);rfl;rfl;go_must (rfl;exact rangeAt_row HRW.out;rfl;(rw [HML.out];exact mt_sizeM);rfl))
 refine (HR.out _ HB0.out).mono ?_
 rintro e w2 ⟨A,k,rfl,H2⟩
 have HB2:=Lib.hid (HB0.out.trans (H2.out.2.2.mono HB0.out.size))
 clear HR HB0 H2
 generalize X.length=xl at*
 go_wp2_with fail
 go_ret
 exact ⟨by rw [HX.out];rfl,HB2⟩
set_option maxRecDepth 100000 in
set_option maxHeartbeats 4000000 in
theorem mt_print_no (w:World) (m:Man) (A1:Option Addr) (n1 c1:Nat) (A2:Option Addr) (n2 c2:Nat) (hM:ManIn w m A1 n1 c1 A2 n2 c2) (hn1:n1≤140737488351232) (hF:FitM m) (hE:MEnv w) (hX:rowM m=[]):
  Calls Tryz.prog 13 #[.agg (mv m.config (.slice A1 n1 c1) (.slice A2 n2 c2)).toArray] w fun e w'=> e= .returned (.tuple #[.slice none 0 0, .bool false])∧Hid (Below w.heap.size w w'):=by
 have HR:=Lib.hid (fun W (q:Below w.heap.size w W)=> own_any rfl (mt_row W m A1 n1 c1 A2 n2 c2 (hM.below q) hn1 hF (hE.below q)))
 have HE:=Lib.hid (fun W (q:Below w.heap.size w W)=> hE.below q)
 have hml:=mv_len hM.dig (.slice A1 n1 c1) (.slice A2 n2 c2)
 have hrow:=Row.new w 31 (mv m.config (.slice A1 n1 c1) (.slice A2 n2 c2))
 have HB0:=Lib.hid (below_alloc' w (.cells (mv m.config (.slice A1 n1 c1) (.slice A2 n2 c2)).toArray 31))
 have HRW:=Lib.hid hrow
 have HML:=Lib.hid hml
 rw [hX]at HR
 clear hM hF hE hrow hml hX
 generalize mv m.config (.slice A1 n1 c1) (.slice A2 n2 c2)=MV at*
 go_enter Tryz.func13,Tryz.ntmps13
 go_wp2_with ((with_reducible refine load_all ?_ 31 (.tmp 1) ?_ w.heap.size 0 MV MV.toArray ?_ _ ?_ Tryz.underlying31 ?_ ?_ ?_ ?_);rfl;rfl;go_must (rfl;exact rangeAt_row HRW.out;rfl;(rw [HML.out];exact mt_sizeM);rfl))
 refine (HR.out _ HB0.out).mono ?_
 rintro e w2 ⟨A,k,rfl,H2⟩
 have HB2:=Lib.hid (HB0.out.trans (H2.out.2.2.mono HB0.out.size))
 have HV2:=Lib.hid H2.out.2.1
 clear HR HB0 H2
 go_wp2_with fail
 refine (js_print_no w2 A 0 k [] HV2.out (by decide) (fun v hv=> by cases hv) (HE.out _ HB2.out).j.tab rfl).mono ?_
 rintro e w3 ⟨rfl,H3⟩
 have HB3:=Lib.hid (HB2.out.trans (H3.out.mono HB2.out.size))
 clear HB2 H3
 go_wp2_with fail
 go_ret2
 exact ⟨rfl,HB3⟩
set_option maxRecDepth 100000 in
set_option maxHeartbeats 4000000 in
theorem mt_print (w:World) (m:Man) (A1:Option Addr) (n1 c1:Nat) (A2:Option Addr) (n2 c2:Nat) (hM:ManIn w m A1 n1 c1 A2 n2 c2) (hn1:n1≤140737488351232) (hF:FitM m) (hE:MEnv w) {t:List UInt8} (ht:Js.Row (rowM m) t):
  Calls Tryz.prog 13 #[.agg (mv m.config (.slice A1 n1 c1) (.slice A2 n2 c2)).toArray] w fun e w'=> ∃val,e= .returned (.tuple #[val, .bool true])∧Hid (OwnBytes w' w.heap.size val t∧Below w.heap.size w w'):=by
 have HR:=Lib.hid (fun W (q:Below w.heap.size w W)=> own_any rfl (mt_row W m A1 n1 c1 A2 n2 c2 (hM.below q) hn1 hF (hE.below q)))
 have HE:=Lib.hid (fun W (q:Below w.heap.size w W)=> hE.below q)
 have hml:=mv_len hM.dig (.slice A1 n1 c1) (.slice A2 n2 c2)
 have hrow:=Row.new w 31 (mv m.config (.slice A1 n1 c1) (.slice A2 n2 c2))
 have HB0:=Lib.hid (below_alloc' w (.cells (mv m.config (.slice A1 n1 c1) (.slice A2 n2 c2)).toArray 31))
 have HRW:=Lib.hid hrow
 have HML:=Lib.hid hml
 have HS:=Lib.hid (short_rowM hF hM.digs)
 have HT:=Lib.hid ht
 clear hM hF hE hrow hml ht
 generalize mv m.config (.slice A1 n1 c1) (.slice A2 n2 c2)=MV at*
 generalize rowM m=X at*
 go_enter Tryz.func13,Tryz.ntmps13
 go_wp2_with ((with_reducible refine load_all ?_ 31 (.tmp 1) ?_ w.heap.size 0 MV MV.toArray ?_ _ ?_ Tryz.underlying31 ?_ ?_ ?_ ?_);rfl;rfl;go_must (rfl;exact rangeAt_row HRW.out;rfl;(rw [HML.out];exact mt_sizeM);rfl))
 refine (HR.out _ HB0.out).mono ?_
 rintro e w2 ⟨A,k,rfl,H2⟩
 have HB2:=Lib.hid (HB0.out.trans (H2.out.2.2.mono HB0.out.size))
 have HV2:=Lib.hid H2.out.2.1
 clear HR HB0 H2
 go_wp2_with fail
 refine (js_print w2 A X.length k X t HV2.out HS.out (HE.out _ HB2.out).j.tab (HE.out _ HB2.out).js HT.out).mono ?_
 rintro e w3 ⟨val,rfl,H3⟩
 have HB3:=Lib.hid (HB2.out.trans (H3.out.2.mono HB2.out.size))
 have HO3:=Lib.hid (bytes_mono H3.out.1 HB2.out.size)
 clear HB2 H3
 go_wp2_with fail
 go_ret2
 exact ⟨_,rfl,Lib.hid ⟨HO3.out,HB3.out⟩⟩
end Go.Proofs.YtmkjcleecjjchaaGreatDoor
