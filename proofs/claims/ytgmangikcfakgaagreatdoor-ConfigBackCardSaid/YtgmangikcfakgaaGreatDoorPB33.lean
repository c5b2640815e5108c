import Derived.Test.YtgmangikcfakgaaGreatDoorPB32
import Derived.Test.YtgmangikcfakgaaGreatDoorPB29
import Derived.Test.YtgmangikcfakgaaGreatDoorPB30
import Derived.Deep.RegionLaw
import Derived.Test.YtgmangikcfakgaaGreatDoorPB13
import Derived.Test.YtgmangikcfakgaaGreatDoorPB9
import Derived.Test.YtgmangikcfakgaaGreatDoorPB25
import Derived.Test.YtgmangikcfakgaaGreatDoorPB26
import Derived.BigQuiet
namespace Go.Proofs.YtgmangikcfakgaaGreatDoor
open Go.RowKit Sh Jt Js Jo
end Go.Proofs.YtgmangikcfakgaaGreatDoor
namespace Go.Proofs.YtgmangikcfakgaaGreatDoor
open Go.RowKit Sh Jt Js Jo
set_option maxRecDepth 100000
theorem ValsAt.range {w:World} {b o n c:Nat} {L:List V} (h:ValsAt w (some ⟨b,o,none⟩) n c L) {i:Nat} (hi:i < L.length):w.rangeAt b (o+i*4) (vv L[i]):=by
 obtain ⟨b',o',e,_,hr⟩:=h.at_ (by have:=h.len;omega)
 cases e
 intro j v hj
 have hj4:j < 4:=(List.getElem?_eq_some_iff.1 hj).1
 rw [Nat.add_assoc]
 exact hr _ _ (by rw [cellsV_at L i j hi hj4];exact hj)
theorem cf_sizeV:(Tryz.prog.info? 72).map (·.size)=some 4:=by kernel_rfl
theorem vv_one (v:V):(vv v).toArray.all (·.oneCell')=true:=all_oneCell_toArray (fun u hu=> cellsV_one [v] u (by show u∈vv v++[];rw [List.append_nil];exact hu))
end Go.Proofs.YtgmangikcfakgaaGreatDoor
namespace Go.Proofs.YtgmangikcfakgaaGreatDoor
open Go.RowKit Sh Jt Js Jo
theorem OwnVals.cut {w:World} {B g n c:Nat} {L:List V} (h:OwnVals w B (.slice (some ⟨g,0,none⟩) n c) L) {m:Nat} (hm:m≤n):OwnVals w B (.slice (some ⟨g,0,none⟩) m c) (L.take m):=by
 have hl:=h.at_.2
 obtain ⟨_,⟨e,_⟩ | ⟨g',cap,cur,e,hg,hh,hn,hc,hs,ht⟩⟩:=h
 ·cases e
 ·simp only [Value.slice.injEq,Option.some.injEq,Addr.mk.injEq]at e
  obtain ⟨⟨rfl,_⟩,rfl,rfl⟩:=e
  have hlt:(L.take m).length=m:=by rw [List.length_take];omega
  refine ⟨by rw [cellsV_len], .inr ⟨g,c,cur,by rw [hlt],hg,hh,by omega,hc,hs, ?_⟩⟩
  rw [hlt]
  have e2:cellsV (L.take m)=(cellsV L).take (m*4):=by
   have:=cellsV_app (L.take m) (L.drop m)
   rw [List.take_append_drop]at this
   rw [this,List.take_left' (by rw [cellsV_len,hlt])]
  rw [e2,←ht,List.take_take,Nat.min_eq_left (by omega)]
namespace Jo
end Jo
end Go.Proofs.YtgmangikcfakgaaGreatDoor
namespace Go.Proofs.YtgmangikcfakgaaGreatDoor
open Go.RowKit Sh Jt Js
def iv (k:Nat):Value:= .int .i64 (k:Int)
structure IntsAt (w:World) (A:Option Addr) (n c:Nat) (P:List Nat):Prop where
 len:P.length=n
 cap:n≤c
 at_:0 < n→∃b o,A=some ⟨b,o,none⟩∧b < w.heap.size∧w.rangeAt b o (P.map iv)
theorem IntsAt.kept {w w':World} {S:Nat→Prop} {A:Option Addr} {n c:Nat} {P:List Nat} (h:IntsAt w A n c P) (k:Kept w w' S) (hS:∀b o,A=some ⟨b,o,none⟩→b < w.heap.size→¬S b):IntsAt w' A n c P:=
 ⟨h.len,h.cap,fun hn=> by
  obtain ⟨b,o,e,hlt,hr⟩:=h.at_ hn
  exact ⟨b,o,e,Nat.lt_of_lt_of_le hlt k.size,rangeAt_kept hr k (hS b o e hlt)⟩⟩
theorem IntsAt.below {w w':World} {A:Option Addr} {n c:Nat} {P:List Nat} (h:IntsAt w A n c P) (hb:Below w.heap.size w w'):IntsAt w' A n c P:=h.kept (kept_below hb) (fun _ _ _ _ h=> h)
theorem IntsAt.cell {w:World} {b o n c:Nat} {P:List Nat} (h:IntsAt w (some ⟨b,o,none⟩) n c P) {i:Nat} (hi:i < P.length):w.cell? ⟨b,o+i,none⟩=some (.int .i64 (P[i]:Int)):=by
 obtain ⟨b',o',e,_,hr⟩:=h.at_ (by have:=h.len;omega)
 cases e
 exact hr i _ (by rw [List.getElem?_map,List.getElem?_eq_getElem hi];rfl)
theorem IntsAt.pre {w:World} {A:Option Addr} {n c:Nat} {P:List Nat} (h:IntsAt w A n c P) {m:Nat} (hm:m≤n):IntsAt w A m c (P.take m):=by
 have hl:=h.len
 have hc:=h.cap
 refine ⟨by rw [List.length_take];omega,by omega,fun h0=> ?_⟩
 obtain ⟨b,o,e,hlt,hr⟩:=h.at_ (by omega)
 refine ⟨b,o,e,hlt,fun j v hj=> hr j v ?_⟩
 rw [List.map_take,List.getElem?_take]at hj
 split at hj
 ·exact hj
 ·cases hj
theorem IntsAt.behind {w:World} {b o n c:Nat} {P:List Nat} (h:IntsAt w (some ⟨b,o,none⟩) n c P) {m:Nat} (hm:m≤n) {AD:Addr} (hA:(if c=m then some (⟨b,o,none⟩:Addr) else some ⟨b,o+m,none⟩)=some AD):IntsAt w (some AD) (n - m) (c - m) (P.drop m):=by
 have hl:=h.len
 have hc:=h.cap
 refine ⟨by rw [List.length_drop];omega,by omega,fun h0=> ?_⟩
 obtain ⟨b',o',e,hlt,hr⟩:=h.at_ (by omega)
 cases e
 rw [if_neg (by omega)]at hA
 cases hA
 refine ⟨b,o+m,rfl,hlt,fun j v hj=> ?_⟩
 rw [List.map_drop,List.getElem?_drop]at hj
 have:=hr _ _ hj
 rwa [←Nat.add_assoc]at this
theorem IntsAt.one (w:World) (k:Nat):IntsAt (w.alloc (.cells #[iv k] 3)) (some ⟨w.heap.size,0,none⟩) 1 1 [k]:=by
 have r:=Row.new w 3 [iv k]
 exact ⟨rfl,Nat.le_refl _,fun _=> ⟨_,0,rfl,r.lt,r.range 0 _ (fun j v hj=> by rw [Nat.zero_add];exact hj)⟩⟩
def OwnInts (w:World) (B:Nat) (v:Value) (P:List Nat):Prop:=w.ownsRow B 3 1 v P.length (P.map iv)
theorem OwnInts.nil (w:World) (B:Nat):OwnInts w B (.slice none 0 0) []:=⟨rfl, .inl ⟨rfl,rfl⟩⟩
theorem OwnInts.made (w:World):OwnInts (w.alloc (.cells #[] 3)) w.heap.size (.slice (some ⟨w.heap.size,0,none⟩) 0 0) []:=
 ⟨rfl, .inr ⟨w.heap.size,0,#[],rfl,Nat.le_refl _,heap_alloc_new w _,Nat.le_refl _,Nat.zero_le _,rfl,rfl⟩⟩
theorem OwnInts.kept {w w':World} {S:Nat→Prop} {B:Nat} {v:Value} {P:List Nat} (h:OwnInts w B v P) (k:Kept w w' S) (hS:∀b,v.ownBlock=some b→¬S b):OwnInts w' B v P:=by
 obtain ⟨hl,h1 | ⟨g,cap,cur,rfl,hg,hh,hn,hc,hs,ht⟩⟩:=h
 ·exact ⟨hl, .inl h1⟩
 ·exact ⟨hl, .inr ⟨g,cap,cur,rfl,hg,(k.block g (Array.getElem?_eq_some_iff.1 hh).1 (hS g rfl)).trans hh,hn,hc,hs,ht⟩⟩
theorem OwnInts.below {w w':World} {B:Nat} {v:Value} {P:List Nat} (h:OwnInts w B v P) (hb:Below w.heap.size w w'):OwnInts w' B v P:=h.kept (kept_below hb) (fun _ _ h=> h)
theorem OwnInts.mono {w:World} {B B':Nat} {v:Value} {P:List Nat} (h:OwnInts w B v P) (hB:B'≤B):OwnInts w B' v P:=by
 obtain ⟨hl,h1 | ⟨g,cap,cur,rfl,hg,rest⟩⟩:=h
 ·exact ⟨hl, .inl h1⟩
 ·exact ⟨hl, .inr ⟨g,cap,cur,rfl,Nat.le_trans hB hg,rest⟩⟩
theorem OwnInts.ints {w:World} {B:Nat} {v:Value} {P:List Nat} (h:OwnInts w B v P):(P=[]∧∃A c,v= .slice A 0 c)∨∃g c,v= .slice (some ⟨g,0,none⟩) P.length c∧IntsAt w (some ⟨g,0,none⟩) P.length c P∧g < w.heap.size∧B≤g:=by
 obtain ⟨hl,⟨rfl,h0⟩ | ⟨g,cap,cur,rfl,hg,hh,hn,hc,hs,ht⟩⟩:=h
 ·exact .inl ⟨List.eq_nil_of_length_eq_zero h0,none,0,rfl⟩
 ·have hlt:=(Array.getElem?_eq_some_iff.1 hh).1
  refine .inr ⟨g,cap,rfl,⟨rfl,hn,fun _=> ⟨g,0,rfl,hlt,fun j u hj=> ?_⟩⟩,hlt,hg⟩
  have hjl:=(List.getElem?_eq_some_iff.1 hj).1
  rw [List.length_map]at hjl
  rw [cell_of_row _ _ _ _ _ _ hh,Nat.zero_add,←hj,←ht,List.getElem?_take,if_pos (by omega)]
  simp
theorem OwnInts.none0 {w:World} {B:Nat} {v:Value} (h:OwnInts w B v []):∃A c,v= .slice A 0 c:=by
 rcases h.ints with ⟨_,h⟩ | ⟨g,c,e,_⟩
 ·exact h
 ·exact ⟨_,_,e⟩
end Go.Proofs.YtgmangikcfakgaaGreatDoor
namespace Go.Proofs.YtgmangikcfakgaaGreatDoor
open Go.RowKit Sh Jt Js
end Go.Proofs.YtgmangikcfakgaaGreatDoor
namespace Go.Proofs.YtgmangikcfakgaaGreatDoor
open Go.RowKit Sh Jt Js
end Go.Proofs.YtgmangikcfakgaaGreatDoor
namespace Go.Proofs.YtgmangikcfakgaaGreatDoor
open Go.RowKit Sh Jt Js
end Go.Proofs.YtgmangikcfakgaaGreatDoor
namespace Go.Proofs.YtgmangikcfakgaaGreatDoor
open Go.RowKit Sh Jt Js Jo
set_option maxRecDepth 100000
def hz:List Value:=[.string ⟨#[]⟩, .bool false, .slice none 0 0]
theorem hist_one (s:ByteArray) (b:Bool) (A:Option Addr) (n c:Nat):([.string s, .bool b, .slice A n c]:List Value).toArray.all (·.oneCell')=true:=all_oneCell_toArray (fun v hv=> by
 simp only [List.mem_cons,List.not_mem_nil,or_false]at hv
 rcases hv with rfl | rfl | rfl <;> rfl)
theorem hz_one:hz.toArray.all (·.oneCell')=true:=hist_one _ _ _ _ _
structure RhAt (w wr:World):Prop where
 res:Row wr w.heap.size 42 hz
 below:Below w.heap.size w wr
theorem RhAt.next {w wr w':World} (h:RhAt w wr) (hb:Below wr.heap.size wr w'):RhAt w w':=⟨h.res.below hb h.res.lt,h.below.trans (hb.mono h.below.size)⟩
theorem RhAt.new (w:World) {C:Array Value} (hC:C=hz.toArray):RhAt w (w.alloc (.cells C 42)):=by
 subst hC
 exact ⟨Row.new _ _ _,below_alloc _ _⟩
theorem RhAt.kept {w wr w':World} {S:Nat→Prop} (h:RhAt w wr) (k:Kept wr w' S) (hS:∀i,S i→w.heap.size < i):RhAt w w':=
 ⟨h.res.of_block (k.block _ h.res.lt (fun e=> Nat.lt_irrefl _ (hS _ e))),h.below.trans (k.below h.below.size (fun i hi e=> by have:=hS i e;omega))⟩
theorem own_rowH {w wr w':World} (h:Below w.heap.size w wr) (k:Kept wr w' (·=w.heap.size)):Below w.heap.size w w':=
 h.trans (⟨k.os,k.tape,k.output,k.size,fun i hi=> k.block i (Nat.lt_of_lt_of_le hi h.size) (fun e=> by omega)⟩)
namespace Jo
theorem drop_few {L:List V} (key:List UInt8):(dropA L key).length≤L.length:=by
 by_cases hO:isO L=true
 ·obtain ⟨P,hP⟩:=obj_is hO
  have:=drop_len hP key
  omega
 ·unfold dropA
  rw [if_neg hO]
  exact Nat.zero_le _
end Jo
def EntryPost (w:World) (R:Option Hist) (e:Ending) (w':World):Prop:=
 match R with
 | none=> e= .returned (.tuple #[.agg hz.toArray, .bool false])∧Hid (Below w.heap.size w w')
 | some h=> ∃p:Pe,p.hist=h∧e= .returned (.tuple #[.agg p.enc.toArray, .bool true])∧Hid (OwnVals w' w.heap.size p.rest.enc p.rest.row∧Below w.heap.size w w')
end Go.Proofs.YtgmangikcfakgaaGreatDoor
namespace Go.Proofs.YtgmangikcfakgaaGreatDoor
open Go.RowKit Sh Jt Js Jo
set_option maxRecDepth 100000
namespace Jo
theorem layers_snoc:∀(L:List Hist) (h:Hist),layersN (L++[h])=layersN L+if h.empty=true then 0 else 1
 | [],h=> by
  rw [List.nil_append,layersN,layersN]
  split <;> rfl
 | a::r,h=> by
  rw [List.cons_append,layersN,layersN,layers_snoc r h]
  split <;> split <;> omega
theorem hists_next (Q:List Pe) {j:Nat} (h:j < Q.length):histsOf (Q.take (j+1))=histsOf (Q.take j)++[Q[j].hist]:=by
 unfold histsOf
 rw [List.take_succ_eq_append_getElem h,List.map_append,List.map_singleton]
end Jo
theorem OwnHists.block {w:World} {B:Nat} {v:Value} {Q:List Pe} (h:OwnHists w B v Q) {b:Nat} (e:v.ownBlock=some b):B≤b∧b < w.heap.size:=by
 obtain ⟨_,⟨rfl,_⟩ | ⟨g,cap,cur,rfl,hg,hh,_⟩⟩:=h.row
 ·cases e
 ·have e':g=b:=by simpa [Value.ownBlock] using e
  subst e'
  exact ⟨hg,(Array.getElem?_eq_some_iff.1 hh).1⟩
def HistPost (w:World) (R:Option (List Hist)) (e:Ending) (w':World):Prop:=
 ∃v' Q,e= .returned (.tuple #[v', .bool R.isSome])∧Hid (histsOf Q=R.getD [])∧Hid (OwnHists w' w.heap.size v' Q∧Below w.heap.size w w')
end Go.Proofs.YtgmangikcfakgaaGreatDoor
namespace Go.Proofs.YtgmangikcfakgaaGreatDoor
open Go.RowKit Sh Jt Js Jo
set_option maxRecDepth 100000
structure HoldsC (c:Cfg):Prop where
 rest:Fits c.rest
 hist:∀h∈c.hist,h.who.length≤140737488355328∧Fits h.rest∧h.rest.length≤140737488351232
theorem sumH_snoc (L:List Hist) (h:Hist):sumH (L++[h])=sumH L+(h.who.length+20*h.rest.length):=by
 unfold sumH
 rw [List.map_append,List.sum_append]
 simp
theorem few_noC {c:Cfg} {h:Hist} (hm:h∈c.hist) (hb:fewF h.rest=false):fewC c=false:=by
 unfold fewC
 have:c.hist.all (fun h=> fewF h.rest)=false:=by
  rw [Bool.eq_false_iff]
  intro ha
  have:=List.all_eq_true.1 ha h hm
  rw [hb]at this
  cases this
 rw [this,Bool.false_and]
set_option maxHeartbeats 8000000 in
theorem cf_few (w:World) (c:Cfg) (P:List Pe) (A1:Option Addr) (n1 c1:Nat) (A2:Option Addr) (n2 c2:Nat) (A3:Option Addr) (n3 c3:Nat) (hC:ConfIn w c P A1 n1 c1 A2 n2 c2 A3 n3 c3) (hn1:n1≤140737488355328) (hn2:n2≤140737488355328) (hn3:n3≤140737488351232) (hH:HoldsC c):
  Calls Tryz.prog 12 #[.agg #[.slice A1 n1 c1, .slice A2 n2 c2, .slice A3 n3 c3]] w fun e w'=> e= .returned (.bool (fewC c))∧Hid (Below w.heap.size w w'):=by
 obtain ⟨R,hR⟩:∃R,R=fewC c:=⟨_,rfl⟩
 rw [←hR]
 have HNO:=Lib.hid (fun h (hm:h∈c.hist) (hb:fewF h.rest=false)=> show R=false from hR.trans (few_noC hm hb))
 have HX:Hid (R=(c.hist.all (fun h=> fewF h.rest) && (fewF c.rest && decide (sumH c.hist≤3000) && decide (c.ids.length≤65) && decide (c.hist.length≤60)))):=Lib.hid hR
 have hlen:=hC.hist.len
 have hlen1:=hC.ids.len
 have hh:=congrArg List.length hC.same
 unfold histsOf at hh
 rw [List.length_map]at hh
 have HC:=Lib.hid (fun W (q:Below w.heap.size w W)=> hC.below q)
 have HSM:=Lib.hid hC.same
 have HH:=Lib.hid hH
 have HFE:=Lib.hid (fun W (q:Below w.heap.size w W)=> js_few W A3 n3 c3 c.rest (hC.below q).rest hn3 hH.rest)
 have HBX:=Lib.hid (show Row (w.alloc (.cells #[.slice A1 n1 c1, .slice A2 n2 c2, .slice A3 n3 c3] 28)) w.heap.size 28 [.slice A1 n1 c1, .slice A2 n2 c2, .slice A3 n3 c3]from Row.new _ _ _)
 have HB0:=Lib.hid (below_alloc w (.cells #[.slice A1 n1 c1, .slice A2 n2 c2, .slice A3 n3 c3] 28))
 clear hC hH hR
 go_enter Tryz.func12,Tryz.ntmps12
 go_upto_region 1 with fail
 generalize hW0:w.alloc (Obj.cells #[.slice A1 n1 c1, .slice A2 n2 c2, .slice A3 n3 c3] 28)=w0 at HBX HB0
 generalize hW:World.alloc _ _=W'
 obtain rfl:w0=W':=hW0.symm.trans hW
 clear hW hW0
 have HBB:=Lib.hid (fun k=> show Below w.heap.size w (w0.drewN k)from below_drewN HB0.out k)
 have x2:w0.cell? ⟨w.heap.size,2,none⟩=some (.slice A3 n3 c3):=HBX.out.cell (i:=2) rfl
 have x1:w0.cell? ⟨w.heap.size,1,none⟩=some (.slice A2 n2 c2):=HBX.out.cell (i:=1) rfl
 have x0:w0.cell? ⟨w.heap.size,0,none⟩=some (.slice A1 n1 c1):=HBX.out.cell (i:=0) rfl
 clear HBX
 go_wp2_with fail
 go_loopg [3,4] n2 (fun g v3 v4 wx=> ∃(j m:Nat) (z:Int),v3= .int .i64 z∧v4= .int .i64 (j:Int)∧j+g=n2∧wx=w0.drewN m∧Hid (∀h∈histsOf (P.take j),fewF h.rest=true)∧Hid (n2≤60→z=((sumH (histsOf (P.take j)):Nat):Int)∧sumH (histsOf (P.take j))≤j*2955487255461888))
 case atStart=> exact ⟨0,0,0,rfl,rfl,by omega,rfl,Lib.hid (fun h hm=> by cases hm),Lib.hid fun _=> ⟨rfl,Nat.zero_le _⟩⟩
 case round=>
  obtain ⟨j,m,z,rfl,rfl,hjg,rfl,HA,HZ⟩:=hrel
  cases gk with
  | zero=>
   obtain rfl:j=n2:=by omega
   rw [List.take_of_length_le (by omega),HSM.out]at HA HZ
   have hall:c.hist.all (fun h=> fewF h.rest)=true:=List.all_eq_true.2 HA.out
   have HX2:Hid (R=(fewF c.rest && decide (sumH c.hist≤3000) && decide (n1≤65) && decide (j≤60))):=Lib.hid (by rw [HX.out,hall,Bool.true_and,hlen1,←hh,hlen])
   have HFX:=Lib.hid (HFE.out _ (HBB.out m))
   have hge:¬(j:Int) < (j:Int):=by omega
   clear HX HNO HC HSM HH HFE hall HA
   generalize fewF c.rest=b1 at*
   go_wp2_with fail
   refine HFX.out.mono ?_
   rintro e w2 ⟨rfl,q,rfl⟩
   clear HFX
   rw [World.drewN_drewN]
   have HE:=Lib.hid (HBB.out (m+q))
   cases b1 with
   | false=>
    have HR:Hid (R=false):=Lib.hid (by rw [HX2.out];rfl)
    clear HX2
    go_wp2_with fail
    go_ret
    exact ⟨by rw [HR.out];rfl,HE⟩
   | true=>
    by_cases g60:j≤60
    ·obtain ⟨hz,_⟩:=HZ.out g60
     subst hz
     have hd:decide (j≤60)=true:=decide_eq_true g60
     have hg60:(j:Int)≤60:=by omega
     by_cases hs:sumH c.hist≤3000
     ·have hgs:((sumH c.hist:Nat):Int)≤3000:=by omega
      by_cases h65:n1≤65
      ·have HR:Hid (R=true):=Lib.hid (by rw [HX2.out,hd,decide_eq_true hs,decide_eq_true h65];rfl)
       have hg65:(n1:Int)≤65:=by omega
       clear HX2 HZ hs hd
       generalize sumH c.hist=sx at*
       go_wp2_with fail
       go_ret
       exact ⟨by rw [HR.out];rfl,HE⟩
      ·have HR:Hid (R=false):=Lib.hid (by rw [HX2.out,decide_eq_false h65,Bool.and_false,Bool.false_and])
       have hg65:¬(n1:Int)≤65:=by omega
       clear HX2 HZ hs hd
       generalize sumH c.hist=sx at*
       go_wp2_with fail
       go_ret
       exact ⟨by rw [HR.out];rfl,HE⟩
     ·have HR:Hid (R=false):=Lib.hid (by rw [HX2.out,decide_eq_false hs];rfl)
      have hgs:¬((sumH c.hist:Nat):Int)≤3000:=by omega
      clear HX2 HZ hs hd
      generalize sumH c.hist=sx at*
      go_wp2_with fail
      go_ret
      exact ⟨by rw [HR.out];rfl,HE⟩
    ·have HR:Hid (R=false):=Lib.hid (by rw [HX2.out,decide_eq_false g60,Bool.and_false])
     have hg60:¬(j:Int)≤60:=by omega
     clear HX2 HZ
     by_cases hz:z≤3000
     ·by_cases h65:(n1:Int)≤65
      ·go_wp2_with fail
       go_ret
       refine ⟨?_,HE⟩
       rw [HR.out]
       first | rfl | (show Ending.returned (.bool (decide ((j:Int)≤60)))=_;rw [decide_eq_false (show ¬(j:Int)≤60 by omega)])
      ·go_wp2_with fail
       go_ret
       exact ⟨by rw [HR.out];rfl,HE⟩
     ·go_wp2_with fail
      go_ret
      exact ⟨by rw [HR.out];rfl,HE⟩
  | succ g=>
   have hj:j < P.length:=by omega
   have HCW:=Lib.hid (HC.out w0 HB0.out)
   obtain ⟨b,o,rfl,hb9,_⟩:=HCW.out.hist.at_ (by omega)
   obtain ⟨z0, -,z2⟩:=HCW.out.hist.cells hj
   have hpm:(P[j]).hist∈c.hist:=by
    rw [←HSM.out]
    exact List.mem_map.2 ⟨_,List.getElem_mem hj,rfl⟩
   have hhh:=HH.out.hist _ hpm
   obtain ⟨hw9,hf9,hl9⟩:=hhh
   have HBD:=Lib.hid (show fewF (P[j]).hist.rest=false→R=false from fun e=> HNO.out _ hpm e)
   have HNX:=Lib.hid (hists_next P hj)
   have HFE2:=Lib.hid (fun k=> js_few (w0.drewN k) (P[j]).rest.at_ _ (P[j]).rest.cap (P[j]).rest.row ((HC.out _ (HBB.out k)).hist.ins _ (List.getElem_mem hj)) hl9 hf9)
   clear hpm hf9
   generalize P[j]=pe at*
   obtain ⟨who,em,⟨PA,pc,pr⟩⟩:=pe
   change w0.cell? _=some (.slice PA pr.length pc)at z2
   change w0.cell? _=some (.string (sb who))at z0
   have HST:Hid (sumH (histsOf (P.take (j+1)))=sumH (histsOf (P.take j))+(who.length+20*pr.length)):=Lib.hid (by rw [HNX.out,sumH_snoc];rfl)
   have hw9:who.length≤140737488355328:=hw9
   have hl9:pr.length≤140737488351232:=hl9
   have HFX:Hid (∀k,Calls Tryz.prog 20 #[.slice PA pr.length pc] (w0.drewN k) fun e w'=> e= .returned (.bool (fewF pr))∧∃m,w'=(w0.drewN k).drewN m):=HFE2
   have HBE:Hid (fewF pr=false→R=false):=HBD
   have HAN:Hid (fewF pr=true→∀h∈histsOf (P.take (j+1)),fewF h.rest=true):=Lib.hid (fun e h hm=> by
    rw [HNX.out]at hm
    rcases List.mem_append.1 hm with hm | hm
    ·exact HA.out h hm
    ·rw [List.mem_singleton.1 hm]
     exact e)
   have zs:=sb_size who
   clear HFE2 HBD HNX HA HCW
   generalize sb who=S at*
   generalize fewF pr=b1 at*
   generalize pr.length=pl at*
   generalize who.length=wl at*
   have hjn:(j:Int) < (n2:Int):=by omega
   have hjp:(0:Int)≤(j:Int):=by omega
   go_upto_region 5 with fail
   go_quiet (fail)
   rw [World.drewN_drewN]
   go_wp2_with fail
   refine (HFX.out _).mono ?_
   rintro e w2 ⟨rfl,q,rfl⟩
   rw [World.drewN_drewN]
   cases b1 with
   | false=>
    have HR:=Lib.hid (HBE.out rfl)
    clear HBE HAN HFX
    go_wp2_with fail
    go_ret
    exact ⟨by rw [HR.out];rfl,Lib.hid (HBB.out _)⟩
   | true=>
    have HA2:=Lib.hid (HAN.out rfl)
    clear HBE HAN HFX
    go_wp2_with fail
    go_roundg g
    case measure=> omega
    case rel=>
     refine ⟨j+1,_,_,rfl,by go_num,by omega,rfl,HA2,Lib.hid fun h=> ?_⟩
     obtain ⟨h1,h2⟩:=HZ.out h
     rw [HST.out]
     rw [few_wrap (x:=z+(wl:Int)) (by omega),few_wrap (x:=z+(wl:Int)+20*(pl:Int)) (by omega)]
     omega
end Go.Proofs.YtgmangikcfakgaaGreatDoor
