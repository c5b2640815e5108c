import Derived.Test.YtgmangikcfakgaaGreatDoorPL32
import Derived.Test.YtgmangikcfakgaaGreatDoorPL29
import Derived.Test.YtgmangikcfakgaaGreatDoorPL30
import Derived.Deep.RegionLaw
import Derived.Test.YtgmangikcfakgaaGreatDoorPL13
import Derived.Test.YtgmangikcfakgaaGreatDoorPL9
import Derived.Test.YtgmangikcfakgaaGreatDoorPL25
import Derived.Test.YtgmangikcfakgaaGreatDoorPL26
import Derived.BigQuiet
namespace Go.Proofs.YtgmangikcfakgaaGreatDoor
open Go.RowKit Sh Jt Js Jo
end Go.Proofs.YtgmangikcfakgaaGreatDoor
namespace Go.Proofs.YtgmangikcfakgaaGreatDoor
open Go.RowKit Sh Jt Js Jo
set_option maxRecDepth 100000
theorem ValsAt.range {w:World} {b o n c:Nat} {L:List V} (h:ValsAt w (some ⟨b,o,none⟩) n c L) {i:Nat} (hi:i < L.length):w.rangeAt b (o+i*4) (vv L[i]):=by
 obtain ⟨b',o',e,_,hr⟩:=h.at_ (by have:=h.len;omega)
 cases e
 intro j v hj
 have hj4:j < 4:=(List.getElem?_eq_some_iff.1 hj).1
 rw [Nat.add_assoc]
 exact hr _ _ (by rw [cellsV_at L i j hi hj4];exact hj)
theorem cf_sizeV:(Tryz.prog.info? 72).map (·.size)=some 4:=by kernel_rfl
theorem vv_one (v:V):(vv v).toArray.all (·.oneCell')=true:=all_oneCell_toArray (fun u hu=> cellsV_one [v] u (by show u∈vv v++[];rw [List.append_nil];exact hu))
end Go.Proofs.YtgmangikcfakgaaGreatDoor
namespace Go.Proofs.YtgmangikcfakgaaGreatDoor
open Go.RowKit Sh Jt Js Jo
theorem OwnVals.cut {w:World} {B g n c:Nat} {L:List V} (h:OwnVals w B (.slice (some ⟨g,0,none⟩) n c) L) {m:Nat} (hm:m≤n):OwnVals w B (.slice (some ⟨g,0,none⟩) m c) (L.take m):=by
 have hl:=h.at_.2
 obtain ⟨_,⟨e,_⟩ | ⟨g',cap,cur,e,hg,hh,hn,hc,hs,ht⟩⟩:=h
 ·cases e
 ·simp only [Value.slice.injEq,Option.some.injEq,Addr.mk.injEq]at e
  obtain ⟨⟨rfl,_⟩,rfl,rfl⟩:=e
  have hlt:(L.take m).length=m:=by rw [List.length_take];omega
  refine ⟨by rw [cellsV_len], .inr ⟨g,c,cur,by rw [hlt],hg,hh,by omega,hc,hs, ?_⟩⟩
  rw [hlt]
  have e2:cellsV (L.take m)=(cellsV L).take (m*4):=by
   have:=cellsV_app (L.take m) (L.drop m)
   rw [List.take_append_drop]at this
   rw [this,List.take_left' (by rw [cellsV_len,hlt])]
  rw [e2,←ht,List.take_take,Nat.min_eq_left (by omega)]
namespace Jo
end Jo
end Go.Proofs.YtgmangikcfakgaaGreatDoor
namespace Go.Proofs.YtgmangikcfakgaaGreatDoor
open Go.RowKit Sh Jt Js
def iv (k:Nat):Value:= .int .i64 (k:Int)
structure IntsAt (w:World) (A:Option Addr) (n c:Nat) (P:List Nat):Prop where
 len:P.length=n
 cap:n≤c
 at_:0 < n→∃b o,A=some ⟨b,o,none⟩∧b < w.heap.size∧w.rangeAt b o (P.map iv)
theorem IntsAt.kept {w w':World} {S:Nat→Prop} {A:Option Addr} {n c:Nat} {P:List Nat} (h:IntsAt w A n c P) (k:Kept w w' S) (hS:∀b o,A=some ⟨b,o,none⟩→b < w.heap.size→¬S b):IntsAt w' A n c P:=
 ⟨h.len,h.cap,fun hn=> by
  obtain ⟨b,o,e,hlt,hr⟩:=h.at_ hn
  exact ⟨b,o,e,Nat.lt_of_lt_of_le hlt k.size,rangeAt_kept hr k (hS b o e hlt)⟩⟩
theorem IntsAt.below {w w':World} {A:Option Addr} {n c:Nat} {P:List Nat} (h:IntsAt w A n c P) (hb:Below w.heap.size w w'):IntsAt w' A n c P:=h.kept (kept_below hb) (fun _ _ _ _ h=> h)
theorem IntsAt.cell {w:World} {b o n c:Nat} {P:List Nat} (h:IntsAt w (some ⟨b,o,none⟩) n c P) {i:Nat} (hi:i < P.length):w.cell? ⟨b,o+i,none⟩=some (.int .i64 (P[i]:Int)):=by
 obtain ⟨b',o',e,_,hr⟩:=h.at_ (by have:=h.len;omega)
 cases e
 exact hr i _ (by rw [List.getElem?_map,List.getElem?_eq_getElem hi];rfl)
theorem IntsAt.pre {w:World} {A:Option Addr} {n c:Nat} {P:List Nat} (h:IntsAt w A n c P) {m:Nat} (hm:m≤n):IntsAt w A m c (P.take m):=by
 have hl:=h.len
 have hc:=h.cap
 refine ⟨by rw [List.length_take];omega,by omega,fun h0=> ?_⟩
 obtain ⟨b,o,e,hlt,hr⟩:=h.at_ (by omega)
 refine ⟨b,o,e,hlt,fun j v hj=> hr j v ?_⟩
 rw [List.map_take,List.getElem?_take]at hj
 split at hj
 ·exact hj
 ·cases hj
theorem IntsAt.behind {w:World} {b o n c:Nat} {P:List Nat} (h:IntsAt w (some ⟨b,o,none⟩) n c P) {m:Nat} (hm:m≤n) {AD:Addr} (hA:(if c=m then some (⟨b,o,none⟩:Addr) else some ⟨b,o+m,none⟩)=some AD):IntsAt w (some AD) (n - m) (c - m) (P.drop m):=by
 have hl:=h.len
 have hc:=h.cap
 refine ⟨by rw [List.length_drop];omega,by omega,fun h0=> ?_⟩
 obtain ⟨b',o',e,hlt,hr⟩:=h.at_ (by omega)
 cases e
 rw [if_neg (by omega)]at hA
 cases hA
 refine ⟨b,o+m,rfl,hlt,fun j v hj=> ?_⟩
 rw [List.map_drop,List.getElem?_drop]at hj
 have:=hr _ _ hj
 rwa [←Nat.add_assoc]at this
theorem IntsAt.one (w:World) (k:Nat):IntsAt (w.alloc (.cells #[iv k] 3)) (some ⟨w.heap.size,0,none⟩) 1 1 [k]:=by
 have r:=Row.new w 3 [iv k]
 exact ⟨rfl,Nat.le_refl _,fun _=> ⟨_,0,rfl,r.lt,r.range 0 _ (fun j v hj=> by rw [Nat.zero_add];exact hj)⟩⟩
def OwnInts (w:World) (B:Nat) (v:Value) (P:List Nat):Prop:=w.ownsRow B 3 1 v P.length (P.map iv)
theorem OwnInts.nil (w:World) (B:Nat):OwnInts w B (.slice none 0 0) []:=⟨rfl, .inl ⟨rfl,rfl⟩⟩
theorem OwnInts.made (w:World):OwnInts (w.alloc (.cells #[] 3)) w.heap.size (.slice (some ⟨w.heap.size,0,none⟩) 0 0) []:=
 ⟨rfl, .inr ⟨w.heap.size,0,#[],rfl,Nat.le_refl _,heap_alloc_new w _,Nat.le_refl _,Nat.zero_le _,rfl,rfl⟩⟩
theorem OwnInts.kept {w w':World} {S:Nat→Prop} {B:Nat} {v:Value} {P:List Nat} (h:OwnInts w B v P) (k:Kept w w' S) (hS:∀b,v.ownBlock=some b→¬S b):OwnInts w' B v P:=by
 obtain ⟨hl,h1 | ⟨g,cap,cur,rfl,hg,hh,hn,hc,hs,ht⟩⟩:=h
 ·exact ⟨hl, .inl h1⟩
 ·exact ⟨hl, .inr ⟨g,cap,cur,rfl,hg,(k.block g (Array.getElem?_eq_some_iff.1 hh).1 (hS g rfl)).trans hh,hn,hc,hs,ht⟩⟩
theorem OwnInts.below {w w':World} {B:Nat} {v:Value} {P:List Nat} (h:OwnInts w B v P) (hb:Below w.heap.size w w'):OwnInts w' B v P:=h.kept (kept_below hb) (fun _ _ h=> h)
theorem OwnInts.mono {w:World} {B B':Nat} {v:Value} {P:List Nat} (h:OwnInts w B v P) (hB:B'≤B):OwnInts w B' v P:=by
 obtain ⟨hl,h1 | ⟨g,cap,cur,rfl,hg,rest⟩⟩:=h
 ·exact ⟨hl, .inl h1⟩
 ·exact ⟨hl, .inr ⟨g,cap,cur,rfl,Nat.le_trans hB hg,rest⟩⟩
theorem OwnInts.ints {w:World} {B:Nat} {v:Value} {P:List Nat} (h:OwnInts w B v P):(P=[]∧∃A c,v= .slice A 0 c)∨∃g c,v= .slice (some ⟨g,0,none⟩) P.length c∧IntsAt w (some ⟨g,0,none⟩) P.length c P∧g < w.heap.size∧B≤g:=by
 obtain ⟨hl,⟨rfl,h0⟩ | ⟨g,cap,cur,rfl,hg,hh,hn,hc,hs,ht⟩⟩:=h
 ·exact .inl ⟨List.eq_nil_of_length_eq_zero h0,none,0,rfl⟩
 ·have hlt:=(Array.getElem?_eq_some_iff.1 hh).1
  refine .inr ⟨g,cap,rfl,⟨rfl,hn,fun _=> ⟨g,0,rfl,hlt,fun j u hj=> ?_⟩⟩,hlt,hg⟩
  have hjl:=(List.getElem?_eq_some_iff.1 hj).1
  rw [List.length_map]at hjl
  rw [cell_of_row _ _ _ _ _ _ hh,Nat.zero_add,←hj,←ht,List.getElem?_take,if_pos (by omega)]
  simp
theorem OwnInts.none0 {w:World} {B:Nat} {v:Value} (h:OwnInts w B v []):∃A c,v= .slice A 0 c:=by
 rcases h.ints with ⟨_,h⟩ | ⟨g,c,e,_⟩
 ·exact h
 ·exact ⟨_,_,e⟩
end Go.Proofs.YtgmangikcfakgaaGreatDoor
namespace Go.Proofs.YtgmangikcfakgaaGreatDoor
open Go.RowKit Sh Jt Js
end Go.Proofs.YtgmangikcfakgaaGreatDoor
namespace Go.Proofs.YtgmangikcfakgaaGreatDoor
open Go.RowKit Sh Jt Js
end Go.Proofs.YtgmangikcfakgaaGreatDoor
namespace Go.Proofs.YtgmangikcfakgaaGreatDoor
open Go.RowKit Sh Jt Js
end Go.Proofs.YtgmangikcfakgaaGreatDoor
namespace Go.Proofs.YtgmangikcfakgaaGreatDoor
open Go.RowKit Sh Jt Js Jo
set_option maxRecDepth 100000
def hz:List Value:=[.string ⟨#[]⟩, .bool false, .slice none 0 0]
theorem hist_one (s:ByteArray) (b:Bool) (A:Option Addr) (n c:Nat):([.string s, .bool b, .slice A n c]:List Value).toArray.all (·.oneCell')=true:=all_oneCell_toArray (fun v hv=> by
 simp only [List.mem_cons,List.not_mem_nil,or_false]at hv
 rcases hv with rfl | rfl | rfl <;> rfl)
theorem hz_one:hz.toArray.all (·.oneCell')=true:=hist_one _ _ _ _ _
structure RhAt (w wr:World):Prop where
 res:Row wr w.heap.size 42 hz
 below:Below w.heap.size w wr
theorem RhAt.next {w wr w':World} (h:RhAt w wr) (hb:Below wr.heap.size wr w'):RhAt w w':=⟨h.res.below hb h.res.lt,h.below.trans (hb.mono h.below.size)⟩
theorem RhAt.new (w:World) {C:Array Value} (hC:C=hz.toArray):RhAt w (w.alloc (.cells C 42)):=by
 subst hC
 exact ⟨Row.new _ _ _,below_alloc _ _⟩
theorem RhAt.kept {w wr w':World} {S:Nat→Prop} (h:RhAt w wr) (k:Kept wr w' S) (hS:∀i,S i→w.heap.size < i):RhAt w w':=
 ⟨h.res.of_block (k.block _ h.res.lt (fun e=> Nat.lt_irrefl _ (hS _ e))),h.below.trans (k.below h.below.size (fun i hi e=> by have:=hS i e;omega))⟩
theorem own_rowH {w wr w':World} (h:Below w.heap.size w wr) (k:Kept wr w' (·=w.heap.size)):Below w.heap.size w w':=
 h.trans (⟨k.os,k.tape,k.output,k.size,fun i hi=> k.block i (Nat.lt_of_lt_of_le hi h.size) (fun e=> by omega)⟩)
namespace Jo
theorem drop_few {L:List V} (key:List UInt8):(dropA L key).length≤L.length:=by
 by_cases hO:isO L=true
 ·obtain ⟨P,hP⟩:=obj_is hO
  have:=drop_len hP key
  omega
 ·unfold dropA
  rw [if_neg hO]
  exact Nat.zero_le _
end Jo
def EntryPost (w:World) (R:Option Hist) (e:Ending) (w':World):Prop:=
 match R with
 | none=> e= .returned (.tuple #[.agg hz.toArray, .bool false])∧Hid (Below w.heap.size w w')
 | some h=> ∃p:Pe,p.hist=h∧e= .returned (.tuple #[.agg p.enc.toArray, .bool true])∧Hid (OwnVals w' w.heap.size p.rest.enc p.rest.row∧Below w.heap.size w w')
end Go.Proofs.YtgmangikcfakgaaGreatDoor
namespace Go.Proofs.YtgmangikcfakgaaGreatDoor
open Go.RowKit Sh Jt Js Jo
set_option maxRecDepth 100000
namespace Jo
theorem layers_snoc:∀(L:List Hist) (h:Hist),layersN (L++[h])=layersN L+if h.empty=true then 0 else 1
 | [],h=> by
  rw [List.nil_append,layersN,layersN]
  split <;> rfl
 | a::r,h=> by
  rw [List.cons_append,layersN,layersN,layers_snoc r h]
  split <;> split <;> omega
theorem hists_next (Q:List Pe) {j:Nat} (h:j < Q.length):histsOf (Q.take (j+1))=histsOf (Q.take j)++[Q[j].hist]:=by
 unfold histsOf
 rw [List.take_succ_eq_append_getElem h,List.map_append,List.map_singleton]
end Jo
theorem OwnHists.block {w:World} {B:Nat} {v:Value} {Q:List Pe} (h:OwnHists w B v Q) {b:Nat} (e:v.ownBlock=some b):B≤b∧b < w.heap.size:=by
 obtain ⟨_,⟨rfl,_⟩ | ⟨g,cap,cur,rfl,hg,hh,_⟩⟩:=h.row
 ·cases e
 ·have e':g=b:=by simpa [Value.ownBlock] using e
  subst e'
  exact ⟨hg,(Array.getElem?_eq_some_iff.1 hh).1⟩
def HistPost (w:World) (R:Option (List Hist)) (e:Ending) (w':World):Prop:=
 ∃v' Q,e= .returned (.tuple #[v', .bool R.isSome])∧Hid (histsOf Q=R.getD [])∧Hid (OwnHists w' w.heap.size v' Q∧Below w.heap.size w w')
end Go.Proofs.YtgmangikcfakgaaGreatDoor
namespace Go.Proofs.YtgmangikcfakgaaGreatDoor
open Go.RowKit Sh Jt Js Jo
set_option maxRecDepth 100000
end Go.Proofs.YtgmangikcfakgaaGreatDoor
