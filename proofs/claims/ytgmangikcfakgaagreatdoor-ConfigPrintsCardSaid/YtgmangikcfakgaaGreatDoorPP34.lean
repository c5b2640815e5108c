import Derived.Test.YtgmangikcfakgaaGreatDoorPP33
import Derived.Test.YtgmangikcfakgaaGreatDoorPP29
import Derived.Test.YtgmangikcfakgaaGreatDoorPP31
import Derived.Test.YtgmangikcfakgaaGreatDoorPP32
import Derived.Test.YtgmangikcfakgaaGreatDoorPP22
import Derived.BigQuiet
namespace Go.Proofs.YtgmangikcfakgaaGreatDoor
open Go.RowKit Sh Jt Js
set_option maxRecDepth 100000 in
set_option maxHeartbeats 4000000 in
theorem js_rsort (w:World) (A:Option Addr) (n c:Nat) (L:List V) (hL:ValsAt w A n c L) (hn:n≤250000) (hs:Short 1000000000 L):
  Calls Tryz.prog 38 #[.slice A n c] w fun e w'=> ∃v',e= .returned v'∧Hid (OwnVals w' w.heap.size v' (if rightPF L=true then sortF L.length L else [])∧Below w.heap.size w w'):=by
 have hlen:=hL.len
 have HR:=Lib.hid (js_rRight w A n c L hL (by omega) hs)
 by_cases hr:rightPF L=true
 ·rw [if_pos hr]
  rw [hr]at HR
  obtain ⟨t,ht⟩:=(prog_is L).1 hr
  have h5:=ht.1
  obtain ⟨v,r,t1,rfl,hone,rfl⟩:=row_oneS ht
  have HA:=Lib.hid (fun W (k:Below w.heap.size w W)=> js_rsorted 50 (v::r).length 0 0 c false v r [] t1 W A (v::r) rfl hone (by rw [List.append_nil];rfl) (Nat.le_refl _) h5 (by rw [hlen];exact hL.below k) (by rw [hlen];exact hn))
  rw [hlen]at HA
  rw [hlen]
  clear hL hs ht hone hr
  generalize sortF n (v::r)=SL at*
  go_enter Tryz.func38,Tryz.ntmps38
  go_wp2_with fail
  refine HR.out.mono ?_
  rintro e w2 ⟨rfl,HB⟩
  have HAA:=Lib.hid (HA.out w2 HB.out)
  clear HR HA
  go_wp2_with fail
  refine HAA.out.mono ?_
  rintro e w3 ⟨v3,rfl,H3⟩
  have HX:=Lib.hid (And.intro (H3.out.1.mono HB.out.size) (HB.out.trans (H3.out.2.mono HB.out.size)))
  clear H3 HAA
  go_wp2_with fail
  go_ret
  exact ⟨v3,rfl,HX⟩
 ·rw [if_neg hr]
  rw [Bool.not_eq_true]at hr
  rw [hr]at HR
  clear hL hs hr
  go_enter Tryz.func38,Tryz.ntmps38
  go_wp2_with fail
  refine HR.out.mono ?_
  rintro e w2 ⟨rfl,HB⟩
  clear HR
  go_wp2_with fail
  go_ret
  exact ⟨.slice none 0 0,rfl,Lib.hid ⟨OwnVals.nil _ _,HB.out⟩⟩
end Go.Proofs.YtgmangikcfakgaaGreatDoor
namespace Go.Proofs.YtgmangikcfakgaaGreatDoor
open Go.RowKit Sh Jt Js Jo
set_option maxRecDepth 100000
def hz:List Value:=[.string ⟨#[]⟩, .bool false, .slice none 0 0]
theorem hist_one (s:ByteArray) (b:Bool) (A:Option Addr) (n c:Nat):([.string s, .bool b, .slice A n c]:List Value).toArray.all (·.oneCell')=true:=all_oneCell_toArray (fun v hv=> by
 simp only [List.mem_cons,List.not_mem_nil,or_false]at hv
 rcases hv with rfl | rfl | rfl <;> rfl)
theorem hz_one:hz.toArray.all (·.oneCell')=true:=hist_one _ _ _ _ _
structure RhAt (w wr:World):Prop where
 res:Row wr w.heap.size 42 hz
 below:Below w.heap.size w wr
theorem RhAt.next {w wr w':World} (h:RhAt w wr) (hb:Below wr.heap.size wr w'):RhAt w w':=⟨h.res.below hb h.res.lt,h.below.trans (hb.mono h.below.size)⟩
theorem RhAt.new (w:World) {C:Array Value} (hC:C=hz.toArray):RhAt w (w.alloc (.cells C 42)):=by
 subst hC
 exact ⟨Row.new _ _ _,below_alloc _ _⟩
theorem RhAt.kept {w wr w':World} {S:Nat→Prop} (h:RhAt w wr) (k:Kept wr w' S) (hS:∀i,S i→w.heap.size < i):RhAt w w':=
 ⟨h.res.of_block (k.block _ h.res.lt (fun e=> Nat.lt_irrefl _ (hS _ e))),h.below.trans (k.below h.below.size (fun i hi e=> by have:=hS i e;omega))⟩
theorem own_rowH {w wr w':World} (h:Below w.heap.size w wr) (k:Kept wr w' (·=w.heap.size)):Below w.heap.size w w':=
 h.trans (⟨k.os,k.tape,k.output,k.size,fun i hi=> k.block i (Nat.lt_of_lt_of_le hi h.size) (fun e=> by omega)⟩)
namespace Jo
theorem drop_few {L:List V} (key:List UInt8):(dropA L key).length≤L.length:=by
 by_cases hO:isO L=true
 ·obtain ⟨P,hP⟩:=obj_is hO
  have:=drop_len hP key
  omega
 ·unfold dropA
  rw [if_neg hO]
  exact Nat.zero_le _
end Jo
def EntryPost (w:World) (R:Option Hist) (e:Ending) (w':World):Prop:=
 match R with
 | none=> e= .returned (.tuple #[.agg hz.toArray, .bool false])∧Hid (Below w.heap.size w w')
 | some h=> ∃p:Pe,p.hist=h∧e= .returned (.tuple #[.agg p.enc.toArray, .bool true])∧Hid (OwnVals w' w.heap.size p.rest.enc p.rest.row∧Below w.heap.size w w')
end Go.Proofs.YtgmangikcfakgaaGreatDoor
namespace Go.Proofs.YtgmangikcfakgaaGreatDoor
open Go.RowKit Sh Jt Js Jo
set_option maxRecDepth 100000
namespace Jo
theorem layers_snoc:∀(L:List Hist) (h:Hist),layersN (L++[h])=layersN L+if h.empty=true then 0 else 1
 | [],h=> by
  rw [List.nil_append,layersN,layersN]
  split <;> rfl
 | a::r,h=> by
  rw [List.cons_append,layersN,layersN,layers_snoc r h]
  split <;> split <;> omega
theorem layers_le:∀L:List Hist,layersN L≤L.length
 | []=> Nat.le_refl _
 | a::r=> by
  have:=layers_le r
  rw [layersN,List.length_cons]
  split <;> omega
theorem hists_next (Q:List Pe) {j:Nat} (h:j < Q.length):histsOf (Q.take (j+1))=histsOf (Q.take j)++[Q[j].hist]:=by
 unfold histsOf
 rw [List.take_succ_eq_append_getElem h,List.map_append,List.map_singleton]
end Jo
theorem OwnHists.block {w:World} {B:Nat} {v:Value} {Q:List Pe} (h:OwnHists w B v Q) {b:Nat} (e:v.ownBlock=some b):B≤b∧b < w.heap.size:=by
 obtain ⟨_,⟨rfl,_⟩ | ⟨g,cap,cur,rfl,hg,hh,_⟩⟩:=h.row
 ·cases e
 ·have e':g=b:=by simpa [Value.ownBlock] using e
  subst e'
  exact ⟨hg,(Array.getElem?_eq_some_iff.1 hh).1⟩
set_option maxHeartbeats 4000000 in
theorem cf_rlayers (w:World) (A:Option Addr) (n c:Nat) (Q:List Pe) (hQ:HistsAt w A n c Q) (hn:n≤140737488355328):
  Calls Tryz.prog 18 #[.slice A n c] w fun e w'=> e= .returned (.int .i64 ((layersN (histsOf Q):Nat):Int))∧w=w':=by
 have hlen:=hQ.len
 have HQ:=Lib.hid hQ
 have HNX:=Lib.hid (fun j (h:j < Q.length)=> hists_next Q h)
 have HLE:=Lib.hid (fun j (h:j≤Q.length)=> show layersN (histsOf (Q.take j))≤j from by
  have:=layers_le (histsOf (Q.take j))
  unfold histsOf at this ⊢
  rw [List.length_map,List.length_take]at this
  omega)
 obtain ⟨R,hR⟩:∃R,R=layersN (histsOf Q):=⟨_,rfl⟩
 rw [←hR]
 have HR:=Lib.hid hR
 clear hQ hR
 go_enter Tryz.func18,Tryz.ntmps18
 go_wp2_with fail
 go_loopg [3,4] n (fun g v3 v4 wx=> ∃j x:Nat,v3= .int .i64 (x:Int)∧v4= .int .i64 (j:Int)∧j+g=n∧Hid (x=layersN (histsOf (Q.take j)))∧x≤j∧w=wx)
 case atStart=> exact ⟨0,0,rfl,rfl,by omega,Lib.hid rfl,Nat.le_refl _,rfl⟩
 case round=>
  obtain ⟨j,x,rfl,rfl,hjg,HX,hxj,rfl⟩:=hrel
  cases gk with
  | zero=>
   obtain rfl:j=n:=by omega
   have hge:¬(j:Int) < (j:Int):=by omega
   have hx:x=R:=by rw [HX.out,HR.out,List.take_of_length_le (by omega)]
   subst hx
   go_wp2_with fail
   go_ret
   exact ⟨rfl,rfl⟩
  | succ g=>
   have hj:j < Q.length:=by omega
   obtain ⟨b,o,rfl,hbl,_⟩:=HQ.out.at_ (by omega)
   obtain ⟨-,x1, -⟩:=HQ.out.cells hj
   have hnx:=HNX.out j hj
   have hjn:(j:Int) < (n:Int):=by omega
   have hj0:(0:Int)≤(j:Int):=by omega
   have hst:layersN (histsOf (Q.take (j+1)))=x+if Q[j].empty=true then 0 else 1:=by
    rw [hnx,layers_snoc,←HX.out]
    rfl
   have HST:=Lib.hid hst
   clear hst hnx
   cases hb:Q[j].empty with
   | true=>
    rw [hb]at x1 HST
    have hs2:layersN (histsOf (Q.take (j+1)))=x:=HST.out
    have HS2:=Lib.hid hs2.symm
    clear hs2 HST hb hj
    go_wp2_with fail
    go_roundg g
    case measure=> omega
    case rel=> exact ⟨j+1,x,rfl,by go_num,by omega,HS2,by omega,rfl⟩
   | false=>
    rw [hb]at x1 HST
    have hs2:layersN (histsOf (Q.take (j+1)))=x+1:=HST.out
    have HS2:=Lib.hid hs2.symm
    clear hs2 HST hb hj
    go_wp2_with fail
    go_roundg g
    case measure=> omega
    case rel=> exact ⟨j+1,x+1,by go_num,by go_num,by omega,HS2,by omega,rfl⟩
def HistPost (w:World) (R:Option (List Hist)) (e:Ending) (w':World):Prop:=
 ∃v' Q,e= .returned (.tuple #[v', .bool R.isSome])∧Hid (histsOf Q=R.getD [])∧Hid (OwnHists w' w.heap.size v' Q∧Below w.heap.size w w')
end Go.Proofs.YtgmangikcfakgaaGreatDoor
namespace Go.Proofs.YtgmangikcfakgaaGreatDoor
open Go.RowKit Sh Jt Js Jo
set_option maxRecDepth 100000
structure HoldsC (c:Cfg):Prop where
 rest:Fits c.rest
 hist:∀h∈c.hist,h.who.length≤140737488355328∧Fits h.rest∧h.rest.length≤140737488351232
theorem sumH_snoc (L:List Hist) (h:Hist):sumH (L++[h])=sumH L+(h.who.length+20*h.rest.length):=by
 unfold sumH
 rw [List.map_append,List.sum_append]
 simp
theorem few_noC {c:Cfg} {h:Hist} (hm:h∈c.hist) (hb:fewF h.rest=false):fewC c=false:=by
 unfold fewC
 have:c.hist.all (fun h=> fewF h.rest)=false:=by
  rw [Bool.eq_false_iff]
  intro ha
  have:=List.all_eq_true.1 ha h hm
  rw [hb]at this
  cases this
 rw [this,Bool.false_and]
set_option maxHeartbeats 8000000 in
theorem cf_few (w:World) (c:Cfg) (P:List Pe) (A1:Option Addr) (n1 c1:Nat) (A2:Option Addr) (n2 c2:Nat) (A3:Option Addr) (n3 c3:Nat) (hC:ConfIn w c P A1 n1 c1 A2 n2 c2 A3 n3 c3) (hn1:n1≤140737488355328) (hn2:n2≤140737488355328) (hn3:n3≤140737488351232) (hH:HoldsC c):
  Calls Tryz.prog 12 #[.agg #[.slice A1 n1 c1, .slice A2 n2 c2, .slice A3 n3 c3]] w fun e w'=> e= .returned (.bool (fewC c))∧Hid (Below w.heap.size w w'):=by
 obtain ⟨R,hR⟩:∃R,R=fewC c:=⟨_,rfl⟩
 rw [←hR]
 have HNO:=Lib.hid (fun h (hm:h∈c.hist) (hb:fewF h.rest=false)=> show R=false from hR.trans (few_noC hm hb))
 have HX:Hid (R=(c.hist.all (fun h=> fewF h.rest) && (fewF c.rest && decide (sumH c.hist≤3000) && decide (c.ids.length≤65) && decide (c.hist.length≤60)))):=Lib.hid hR
 have hlen:=hC.hist.len
 have hlen1:=hC.ids.len
 have hh:=congrArg List.length hC.same
 unfold histsOf at hh
 rw [List.length_map]at hh
 have HC:=Lib.hid (fun W (q:Below w.heap.size w W)=> hC.below q)
 have HSM:=Lib.hid hC.same
 have HH:=Lib.hid hH
 have HFE:=Lib.hid (fun W (q:Below w.heap.size w W)=> js_few W A3 n3 c3 c.rest (hC.below q).rest hn3 hH.rest)
 have HBX:=Lib.hid (show Row (w.alloc (.cells #[.slice A1 n1 c1, .slice A2 n2 c2, .slice A3 n3 c3] 28)) w.heap.size 28 [.slice A1 n1 c1, .slice A2 n2 c2, .slice A3 n3 c3]from Row.new _ _ _)
 have HB0:=Lib.hid (below_alloc w (.cells #[.slice A1 n1 c1, .slice A2 n2 c2, .slice A3 n3 c3] 28))
 clear hC hH hR
 go_enter Tryz.func12,Tryz.ntmps12
 go_upto_region 1 with fail
 generalize hW0:w.alloc (Obj.cells #[.slice A1 n1 c1, .slice A2 n2 c2, .slice A3 n3 c3] 28)=w0 at HBX HB0
 generalize hW:World.alloc _ _=W'
 obtain rfl:w0=W':=hW0.symm.trans hW
 clear hW hW0
 have HBB:=Lib.hid (fun k=> show Below w.heap.size w (w0.drewN k)from below_drewN HB0.out k)
 have x2:w0.cell? ⟨w.heap.size,2,none⟩=some (.slice A3 n3 c3):=HBX.out.cell (i:=2) rfl
 have x1:w0.cell? ⟨w.heap.size,1,none⟩=some (.slice A2 n2 c2):=HBX.out.cell (i:=1) rfl
 have x0:w0.cell? ⟨w.heap.size,0,none⟩=some (.slice A1 n1 c1):=HBX.out.cell (i:=0) rfl
 clear HBX
 go_wp2_with fail
 go_loopg [3,4] n2 (fun g v3 v4 wx=> ∃(j m:Nat) (z:Int),v3= .int .i64 z∧v4= .int .i64 (j:Int)∧j+g=n2∧wx=w0.drewN m∧Hid (∀h∈histsOf (P.take j),fewF h.rest=true)∧Hid (n2≤60→z=((sumH (histsOf (P.take j)):Nat):Int)∧sumH (histsOf (P.take j))≤j*2955487255461888))
 case atStart=> exact ⟨0,0,0,rfl,rfl,by omega,rfl,Lib.hid (fun h hm=> by cases hm),Lib.hid fun _=> ⟨rfl,Nat.zero_le _⟩⟩
 case round=>
  obtain ⟨j,m,z,rfl,rfl,hjg,rfl,HA,HZ⟩:=hrel
  cases gk with
  | zero=>
   obtain rfl:j=n2:=by omega
   rw [List.take_of_length_le (by omega),HSM.out]at HA HZ
   have hall:c.hist.all (fun h=> fewF h.rest)=true:=List.all_eq_true.2 HA.out
   have HX2:Hid (R=(fewF c.rest && decide (sumH c.hist≤3000) && decide (n1≤65) && decide (j≤60))):=Lib.hid (by rw [HX.out,hall,Bool.true_and,hlen1,←hh,hlen])
   have HFX:=Lib.hid (HFE.out _ (HBB.out m))
   have hge:¬(j:Int) < (j:Int):=by omega
   clear HX HNO HC HSM HH HFE hall HA
   generalize fewF c.rest=b1 at*
   go_wp2_with fail
   refine HFX.out.mono ?_
   rintro e w2 ⟨rfl,q,rfl⟩
   clear HFX
   rw [World.drewN_drewN]
   have HE:=Lib.hid (HBB.out (m+q))
   cases b1 with
   | false=>
    have HR:Hid (R=false):=Lib.hid (by rw [HX2.out];rfl)
    clear HX2
    go_wp2_with fail
    go_ret
    exact ⟨by rw [HR.out];rfl,HE⟩
   | true=>
    by_cases g60:j≤60
    ·obtain ⟨hz,_⟩:=HZ.out g60
     subst hz
     have hd:decide (j≤60)=true:=decide_eq_true g60
     have hg60:(j:Int)≤60:=by omega
     by_cases hs:sumH c.hist≤3000
     ·have hgs:((sumH c.hist:Nat):Int)≤3000:=by omega
      by_cases h65:n1≤65
      ·have HR:Hid (R=true):=Lib.hid (by rw [HX2.out,hd,decide_eq_true hs,decide_eq_true h65];rfl)
       have hg65:(n1:Int)≤65:=by omega
       clear HX2 HZ hs hd
       generalize sumH c.hist=sx at*
       go_wp2_with fail
       go_ret
       exact ⟨by rw [HR.out];rfl,HE⟩
      ·have HR:Hid (R=false):=Lib.hid (by rw [HX2.out,decide_eq_false h65,Bool.and_false,Bool.false_and])
       have hg65:¬(n1:Int)≤65:=by omega
       clear HX2 HZ hs hd
       generalize sumH c.hist=sx at*
       go_wp2_with fail
       go_ret
       exact ⟨by rw [HR.out];rfl,HE⟩
     ·have HR:Hid (R=false):=Lib.hid (by rw [HX2.out,decide_eq_false hs];rfl)
      have hgs:¬((sumH c.hist:Nat):Int)≤3000:=by omega
      clear HX2 HZ hs hd
      generalize sumH c.hist=sx at*
      go_wp2_with fail
      go_ret
      exact ⟨by rw [HR.out];rfl,HE⟩
    ·have HR:Hid (R=false):=Lib.hid (by rw [HX2.out,decide_eq_false g60,Bool.and_false])
     have hg60:¬(j:Int)≤60:=by omega
     clear HX2 HZ
     by_cases hz:z≤3000
     ·by_cases h65:(n1:Int)≤65
      ·go_wp2_with fail
       go_ret
       refine ⟨?_,HE⟩
       rw [HR.out]
       first | rfl | (show Ending.returned (.bool (decide ((j:Int)≤60)))=_;rw [decide_eq_false (show ¬(j:Int)≤60 by omega)])
      ·go_wp2_with fail
       go_ret
       exact ⟨by rw [HR.out];rfl,HE⟩
     ·go_wp2_with fail
      go_ret
      exact ⟨by rw [HR.out];rfl,HE⟩
  | succ g=>
   have hj:j < P.length:=by omega
   have HCW:=Lib.hid (HC.out w0 HB0.out)
   obtain ⟨b,o,rfl,hb9,_⟩:=HCW.out.hist.at_ (by omega)
   obtain ⟨z0, -,z2⟩:=HCW.out.hist.cells hj
   have hpm:(P[j]).hist∈c.hist:=by
    rw [←HSM.out]
    exact List.mem_map.2 ⟨_,List.getElem_mem hj,rfl⟩
   have hhh:=HH.out.hist _ hpm
   obtain ⟨hw9,hf9,hl9⟩:=hhh
   have HBD:=Lib.hid (show fewF (P[j]).hist.rest=false→R=false from fun e=> HNO.out _ hpm e)
   have HNX:=Lib.hid (hists_next P hj)
   have HFE2:=Lib.hid (fun k=> js_few (w0.drewN k) (P[j]).rest.at_ _ (P[j]).rest.cap (P[j]).rest.row ((HC.out _ (HBB.out k)).hist.ins _ (List.getElem_mem hj)) hl9 hf9)
   clear hpm hf9
   generalize P[j]=pe at*
   obtain ⟨who,em,⟨PA,pc,pr⟩⟩:=pe
   change w0.cell? _=some (.slice PA pr.length pc)at z2
   change w0.cell? _=some (.string (sb who))at z0
   have HST:Hid (sumH (histsOf (P.take (j+1)))=sumH (histsOf (P.take j))+(who.length+20*pr.length)):=Lib.hid (by rw [HNX.out,sumH_snoc];rfl)
   have hw9:who.length≤140737488355328:=hw9
   have hl9:pr.length≤140737488351232:=hl9
   have HFX:Hid (∀k,Calls Tryz.prog 20 #[.slice PA pr.length pc] (w0.drewN k) fun e w'=> e= .returned (.bool (fewF pr))∧∃m,w'=(w0.drewN k).drewN m):=HFE2
   have HBE:Hid (fewF pr=false→R=false):=HBD
   have HAN:Hid (fewF pr=true→∀h∈histsOf (P.take (j+1)),fewF h.rest=true):=Lib.hid (fun e h hm=> by
    rw [HNX.out]at hm
    rcases List.mem_append.1 hm with hm | hm
    ·exact HA.out h hm
    ·rw [List.mem_singleton.1 hm]
     exact e)
   have zs:=sb_size who
   clear HFE2 HBD HNX HA HCW
   generalize sb who=S at*
   generalize fewF pr=b1 at*
   generalize pr.length=pl at*
   generalize who.length=wl at*
   have hjn:(j:Int) < (n2:Int):=by omega
   have hjp:(0:Int)≤(j:Int):=by omega
   go_upto_region 5 with fail
   go_quiet (fail)
   rw [World.drewN_drewN]
   go_wp2_with fail
   refine (HFX.out _).mono ?_
   rintro e w2 ⟨rfl,q,rfl⟩
   rw [World.drewN_drewN]
   cases b1 with
   | false=>
    have HR:=Lib.hid (HBE.out rfl)
    clear HBE HAN HFX
    go_wp2_with fail
    go_ret
    exact ⟨by rw [HR.out];rfl,Lib.hid (HBB.out _)⟩
   | true=>
    have HA2:=Lib.hid (HAN.out rfl)
    clear HBE HAN HFX
    go_wp2_with fail
    go_roundg g
    case measure=> omega
    case rel=>
     refine ⟨j+1,_,_,rfl,by go_num,by omega,rfl,HA2,Lib.hid fun h=> ?_⟩
     obtain ⟨h1,h2⟩:=HZ.out h
     rw [HST.out]
     rw [few_wrap (x:=z+(wl:Int)) (by omega),few_wrap (x:=z+(wl:Int)+20*(pl:Int)) (by omega)]
     omega
end Go.Proofs.YtgmangikcfakgaaGreatDoor
