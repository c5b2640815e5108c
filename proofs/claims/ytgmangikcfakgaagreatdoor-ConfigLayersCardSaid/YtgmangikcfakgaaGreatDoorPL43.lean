import Derived.Test.YtgmangikcfakgaaGreatDoorPL14
import Derived.Test.YtgmangikcfakgaaGreatDoorPL26
import Derived.Test.YtgmangikcfakgaaGreatDoorPL32
import Derived.Test.YtgmangikcfakgaaGreatDoorPL33
import Derived.Deep.RegionLaw
import Derived.Test.YtgmangikcfakgaaGreatDoorPL15
import Derived.Test.YtgmangikcfakgaaGreatDoorPL34
namespace Go.Proofs.YtgmangikcfakgaaGreatDoor
open Go.RowKit Sh
namespace Jt
end Jt
open Jt
end Go.Proofs.YtgmangikcfakgaaGreatDoor
namespace Go.Proofs.YtgmangikcfakgaaGreatDoor
open Go.RowKit Sh Jt Js Jo
namespace Jo
end Jo
end Go.Proofs.YtgmangikcfakgaaGreatDoor
namespace Go.Proofs.YtgmangikcfakgaaGreatDoor
open Go.RowKit Sh Jt Js Jo
namespace Jo
end Jo
theorem StrsAt.made (w:World) (n:Nat):StrsAt (w.alloc (.cells (List.replicate n (.string ⟨#[]⟩)).toArray 9)) (some ⟨w.heap.size,0,none⟩) n n (List.replicate n []):=by
 have r:=Row.new w 9 (List.replicate n (.string ⟨#[]⟩))
 refine ⟨List.length_replicate,Nat.le_refl _,fun _=> ⟨_,0,rfl,r.lt,r.range 0 _ (fun j v hj=> ?_)⟩⟩
 rw [List.map_replicate]at hj
 rw [Nat.zero_add]
 exact hj
end Go.Proofs.YtgmangikcfakgaaGreatDoor
namespace Go.Proofs.YtgmangikcfakgaaGreatDoor
open Go.RowKit Sh Jt Js Jo
namespace Jo
end Jo
end Go.Proofs.YtgmangikcfakgaaGreatDoor
namespace Go.Proofs.YtgmangikcfakgaaGreatDoor
open Go.RowKit Sh Jt Js Jo
set_option maxRecDepth 100000
namespace Jo
theorem right_idV (d:List UInt8):rightPF (idV d)=true:=right_one (one_str (by decide) (fun _=> rfl) valid_none (text_valid d)) (show 1≤5000 by decide)
theorem list_made {ids:List (List UInt8)} (hl:ids.length≤60):listA (ids.map idV)=listF (ids.map idV)∧rightPF (listF (ids.map idV))=true:=by
 have hp:=ids_parts (d:=1) (by decide) ids
 obtain ⟨t,o⟩:=one_list (d:=0) (o:=false) (key:=[]) (by decide) (fun _=> rfl) valid_none hp (List.length_map _)
 have hr:rightPF (listF (ids.map idV))=true:=by
  have hf:=flat_ids ids
  have:=one_right o (by omega)
  unfold listF
  rw [List.length_map]
  exact this
 refine ⟨?_,hr⟩
 unfold listA fineF
 rw [if_pos (List.all_eq_true.2 fun p hp=> by
  obtain ⟨d,_,rfl⟩:=List.mem_map.1 hp
  exact right_idV d),if_pos hr]
theorem root_made {ids:List (List UInt8)} (hl:ids.length≤60):objA [typeK,diffK] [[⟨4,[],fixF layersK,0⟩],listA (ids.map idV)]=rootV ids:=by
 obtain ⟨h1,h2⟩:=list_made hl
 have hv:validF layersK=true:=valid_ascii _ (by decide)
 have h3:rightPF [(⟨4,[],layersK,0⟩:V)]=true:=right_one (one_str (by decide) (fun _=> rfl) valid_none hv) (by decide)
 have he:objF [typeK,diffK] [[⟨4,[],layersK,0⟩],listF (ids.map idV)]=rootV ids:=by
  unfold rootV listF
  rw [List.length_map]
  simp [objF,named]
 rw [fix_same _ hv,h1]
 unfold objA fineF
 rw [if_pos ⟨by rw [List.all_cons,List.all_cons,h3,h2];rfl,rfl⟩,he,if_pos (root_right hl)]
end Jo
theorem below_ownC {w wr w':World} {S:Nat→Prop} (h:Below w.heap.size w wr) (k:Kept wr w' (fun k=> w.heap.size≤k∧S k)):Below w.heap.size w w':=
 h.trans (⟨k.os,k.tape,k.output,k.size,fun i hi=> k.block i (Nat.lt_of_lt_of_le hi h.size) (fun e=> by omega)⟩)
structure RowsG (w wx:World) (v:Value) (G:List (List UInt8)) (Q:List Pc):Prop where
 own:OwnSls wx w.heap.size v Q
 rows:rowsOf Q=G.map idV
 below:Below w.heap.size w wx
theorem RowsG.next {w wr w':World} {v:Value} {G:List (List UInt8)} {Q:List Pc} (h:RowsG w wr v G Q) (k:Below wr.heap.size wr w'):RowsG w w' v G Q:=⟨h.own.below k,h.rows,h.below.trans (k.mono h.below.size)⟩
end Go.Proofs.YtgmangikcfakgaaGreatDoor
namespace Go.Proofs.YtgmangikcfakgaaGreatDoor
open Go.RowKit Sh Jt Js Jo
set_option maxRecDepth 100000
namespace Jo
theorem setA_fewC (L X:List V) (key:List UInt8):(setA L key X).length≤5000:=by
 by_cases h:0 < (setA L key X).length
 ·obtain ⟨_,_,h2,e⟩:=set_inv h
  rw [e]
  exact right_short h2
 ·omega
end Jo
end Go.Proofs.YtgmangikcfakgaaGreatDoor
namespace Go.Proofs.YtgmangikcfakgaaGreatDoor
open Go.RowKit Sh Jt Js Jo
set_option maxRecDepth 100000
namespace Jo
end Jo
end Go.Proofs.YtgmangikcfakgaaGreatDoor
namespace Go.Proofs.YtgmangikcfakgaaGreatDoor
open Go.RowKit Sh Jt Js Jo
set_option maxRecDepth 100000
namespace Jo
theorem listA_fewC (P:List (List V)):(listA P).length≤5000:=by
 unfold listA fineF
 split
 ·split
  next h=> exact right_short h
  next=> exact Nat.zero_le _
 ·exact Nat.zero_le _
end Jo
structure RowsH (w wx:World) (v:Value) (H:List Hist) (Q:List Pc):Prop where
 own:OwnSls wx w.heap.size v Q
 rows:rowsOf Q=H.map rowH
 below:Below w.heap.size w wx
theorem RowsH.next {w wr w':World} {v:Value} {G:List Hist} {Q:List Pc} (h:RowsH w wr v G Q) (k:Below wr.heap.size wr w'):RowsH w w' v G Q:=⟨h.own.below k,h.rows,h.below.trans (k.mono h.below.size)⟩
theorem OwnSls.low {w:World} {B:Nat} {v:Value} {Q:List Pc} (h:OwnSls w B v Q) {k:Nat} (hk:v.ownBlock=some k):B≤k:=by
 obtain ⟨_,⟨rfl,_⟩ | ⟨g,cap,cur,rfl,hg,hh,_⟩⟩:=h.row
 ·cases hk
 ·have e':g=k:=by simpa [Value.ownBlock] using hk
  subst e'
  exact hg
end Go.Proofs.YtgmangikcfakgaaGreatDoor
