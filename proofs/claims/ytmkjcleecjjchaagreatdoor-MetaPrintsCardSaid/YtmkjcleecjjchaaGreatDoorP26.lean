import Derived.Test.YtmkjcleecjjchaaGreatDoorP25
import Derived.Shelf.SlSortCmp.Whole1
import Derived.Ground.SlsfProg
import Derived.Test.YtmkjcleecjjchaaGreatDoorProg
import Derived.Test.YtmkjcleecjjchaaGreatDoorP21
import Derived.BigQuiet
namespace Go.Proofs.YtmkjcleecjjchaaGreatDoor
open Go.RowKit Sh Jt Js Jo
theorem few_short {L:List V} (h:fewF L=true):L.length≤80∧Short 3000 L:=by
 unfold fewF at h
 rw [Bool.and_eq_true,decide_eq_true_eq,decide_eq_true_eq]at h
 refine ⟨h.1,fun v hv=> ?_⟩
 have:=sumV_mem hv
 omega
theorem short_more {m k:Nat} {L:List V} (h:Short m L) (hm:m≤k):Short k L:=fun v hv=> ⟨Nat.le_trans (h v hv).1 hm,Nat.le_trans (h v hv).2 hm⟩
theorem own_any {f:FuncId} {args:Array Value} {W:World} {L:List V} {n:Nat} (hn:L.length=n) (h:Calls Tryz.prog f args W fun e w'=> ∃v',e= .returned v'∧Hid (OwnVals w' W.heap.size v' L∧Below W.heap.size W w')):
  Calls Tryz.prog f args W fun e w'=> ∃A k,e= .returned (.slice A n k)∧Hid (OwnVals w' W.heap.size (.slice A n k) L∧ValsAt w' A n k L∧Below W.heap.size W w'):=by
 subst hn
 refine h.mono ?_
 rintro e w' ⟨v',rfl,H⟩
 obtain ⟨A,k,rfl,hv, -⟩:=H.out.1.vals
 exact ⟨A,k,rfl,Lib.hid ⟨H.out.1,hv,H.out.2⟩⟩
namespace Jo
theorem short_bump {m:Nat} {L:List V} (h:Short m L) (c:Int):Short m (bump c L):=by
 match L,h with
 | [],_=> exact fun v hv=> by cases hv
 | v::r,h=>
  intro x hx
  rcases List.mem_cons.1 hx with rfl | hx
  ·exact h v List.mem_cons_self
  ·exact h x (List.mem_cons_of_mem _ hx)
theorem short_setF {m:Nat} {L M:List V} {key:List UInt8} (h:Short m L) (h2:Short m M) (hk:key.length≤m):Short m (setF L key M):=by
 unfold setF
 cases getA L 0 key with
 | none=> exact short_app (short_bump h 1) (short_named h2 hk)
 | some p=> exact short_app (short_take h p) (short_app (short_named h2 hk) (short_drop h _))
theorem short_setA {m:Nat} {L M:List V} {key:List UInt8} (h:Short m L) (h2:Short m M) (hk:key.length≤m):Short m (setA L key M):=by
 unfold setA fineF
 split
 ·split
  ·exact short_setF h h2 hk
  ·exact fun v hv=> by cases hv
 ·exact fun v hv=> by cases hv
theorem short_dropA {m:Nat} {L:List V} {key:List UInt8} (h:Short m L):Short m (dropA L key):=by
 unfold dropA
 split
 ·cases getA L 0 key with
  | none=> exact h
  | some p=> exact short_bump (short_app (short_take h p) (short_drop h _)) _
 ·exact fun v hv=> by cases hv
theorem cutA_len (L:List V) (z:Int):(cutA L z).length≤L.length:=by
 unfold cutA
 split
 ·rw [named_len,List.length_take,List.length_drop]
  omega
 ·exact Nat.zero_le _
end Jo
end Go.Proofs.YtmkjcleecjjchaaGreatDoor
namespace Go.Proofs
open Go.Shelf
def Tryz.sortR_ren:Go.Shelf.Ren:=⟨fun | 6=> 96 | 15=> 146 | 14=> 145 | 28=> 189 | 29=> 190 | 20=> 181 | 21=> 182 | 22=> 183 | 23=> 184 | 24=> 185 | 25=> 186 | 26=> 187 | 27=> 188 | 46=> 204 | 47=> 205 | 48=> 206 | 49=> 207 | 50=> 208 | 57=> 213 | n=> n,fun | 22=> 74 | 24=> 29 | 25=> 119 | 3=> 3 | 39=> 113 | 0=> 0 | 53=> 152 | 55=> 179 | 4=> 4 | 46=> 192 | 45=> 191 | 50=> 88 | 5=> 5 | 9=> 9 | 66=> 209 | 70=> 213 | 76=> 219 | 77=> 98 | n=> n,fun | n=> n⟩
theorem Tryz.sortR:Go.Proofs.SlLaysF.n6 Tryz.prog Tryz.sortR_ren:= {
 mixed:=by kernel_rfl
 f6:=⟨Tryz.f96.name,by decide,Tryz.func96.trans (congrArg some (by kernel_rfl))⟩
 f14:=⟨Tryz.f145.name,by decide,Tryz.func145.trans (congrArg some (by kernel_rfl))⟩
 f15:=Tryz.func146.trans (congrArg some (by kernel_rfl))
 f20:=⟨Tryz.f181.name,by decide,Tryz.func181.trans (congrArg some (by kernel_rfl))⟩
 f21:=⟨Tryz.f182.name,by decide,Tryz.func182.trans (congrArg some (by kernel_rfl))⟩
 f22:=⟨Tryz.f183.name,by decide,Tryz.func183.trans (congrArg some (by kernel_rfl))⟩
 f23:=⟨Tryz.f184.name,by decide,Tryz.func184.trans (congrArg some (by kernel_rfl))⟩
 f24:=⟨Tryz.f185.name,by decide,Tryz.func185.trans (congrArg some (by kernel_rfl))⟩
 f25:=⟨Tryz.f186.name,by decide,Tryz.func186.trans (congrArg some (by kernel_rfl))⟩
 f26:=⟨Tryz.f187.name,by decide,Tryz.func187.trans (congrArg some (by kernel_rfl))⟩
 f27:=⟨Tryz.f188.name,by decide,Tryz.func188.trans (congrArg some (by kernel_rfl))⟩
 f28:=Tryz.func189.trans (congrArg some (by kernel_rfl))
 f29:=Tryz.func190.trans (congrArg some (by kernel_rfl))
 f46:=⟨Tryz.f204.name,by decide,Tryz.func204.trans (congrArg some (by kernel_rfl))⟩
 f47:=Tryz.func205.trans (congrArg some (by kernel_rfl))
 f48:=Tryz.func206.trans (congrArg some (by kernel_rfl))
 f49:=⟨Tryz.f207.name,by decide,Tryz.func207.trans (congrArg some (by kernel_rfl))⟩
 f50:=⟨Tryz.f208.name,by decide,Tryz.func208.trans (congrArg some (by kernel_rfl))⟩
 f57:=⟨Tryz.f213.name,by decide,Tryz.func213.trans (congrArg some (by kernel_rfl))⟩
 t0:=Tryz.underlying0
 a0:=Tryz.isAgg0
 z0:=Tryz.sizeOf0
 v0:=Tryz.zeroValue0
 t3:=Tryz.underlying3
 a3:=Tryz.isAgg3
 z3:=Tryz.sizeOf3
 v3:=Tryz.zeroValue3
 t4:=Tryz.underlying4
 a4:=Tryz.isAgg4
 z4:=Tryz.sizeOf4
 v4:=Tryz.zeroValue4
 t5:=Tryz.underlying5
 a5:=Tryz.isAgg5
 z5:=Tryz.sizeOf5
 v5:=Tryz.zeroValue5
 t9:=Tryz.underlying9
 a9:=Tryz.isAgg9
 z9:=Tryz.sizeOf9
 v9:=Tryz.zeroValue9
 t22:=Tryz.underlying74
 a22:=Tryz.isAgg74
 z22:=Tryz.sizeOf74
 v22:=Tryz.zeroValue74
 a24:=Tryz.isAgg29
 z24:=Tryz.sizeOf29
 t25:=Tryz.underlying119
 a25:=Tryz.isAgg119
 z25:=Tryz.sizeOf119
 v25:=Tryz.zeroValue119
 t39:=Tryz.underlying113
 a39:=Tryz.isAgg113
 z39:=Tryz.sizeOf113
 v39:=Tryz.zeroValue113
 t45:=Tryz.underlying191
 a45:=Tryz.isAgg191
 z45:=Tryz.sizeOf191
 v45:=Tryz.zeroValue191
 t46:=Tryz.underlying192
 a46:=Tryz.isAgg192
 z46:=Tryz.sizeOf192
 v46:=Tryz.zeroValue192
 t50:=Tryz.underlying88
 a50:=Tryz.isAgg88
 z50:=Tryz.sizeOf88
 v50:=Tryz.zeroValue88
 t53:=Tryz.underlying152
 a53:=Tryz.isAgg152
 z53:=Tryz.sizeOf152
 v53:=Tryz.zeroValue152
 t55:=Tryz.underlying179
 a55:=Tryz.isAgg179
 z55:=Tryz.sizeOf179
 v55:=Tryz.zeroValue179
 t66:=Tryz.underlying209
 a66:=Tryz.isAgg209
 z66:=Tryz.sizeOf209
 v66:=Tryz.zeroValue209
 t70:=Tryz.underlying213
 a70:=Tryz.isAgg213
 z70:=Tryz.sizeOf213
 v70:=Tryz.zeroValue213
 t76:=Tryz.underlying219
 a76:=Tryz.isAgg219
 z76:=Tryz.sizeOf219
 v76:=Tryz.zeroValue219
 t77:=Tryz.underlying98
 a77:=Tryz.isAgg98
 z77:=Tryz.sizeOf98
 v77:=Tryz.zeroValue98}
end Go.Proofs
namespace Go.Proofs.YtmkjcleecjjchaaGreatDoor
open Go.RowKit Go.Shelf Go.Lib Sh Jt Js
theorem cmp_lt:∀a b:List UInt8,decide (Lib.compareBytes a b < 0)=ltF a b
 | [],[]=> rfl
 | [],_::_=> rfl
 | _::_,[]=> rfl
 | x::a,y::b=> by
  have ih:=cmp_lt a b
  have hc:Lib.compareBytes (x::a) (y::b)=if x < y then -1 else if y < x then 1 else Lib.compareBytes a b:=rfl
  have hl:ltF (x::a) (y::b)=if x=y then ltF a b else decide (x.toNat < y.toNat):=rfl
  rw [hl]
  by_cases e:x=y
  ·subst e
   rw [if_neg (UInt8.lt_irrefl x),if_neg (UInt8.lt_irrefl x)]at hc
   rw [hc,if_pos rfl]
   exact ih
  ·rw [if_neg e]
   by_cases h1:x < y
   ·rw [if_pos h1]at hc
    rw [hc,decide_eq_true (UInt8.lt_iff_toNat_lt.1 h1)]
    rfl
   ·have h3:¬x.toNat < y.toNat:=fun h=> h1 (UInt8.lt_iff_toNat_lt.2 h)
    have h4:x.toNat≠y.toNat:=fun h=> e (UInt8.toNat_inj.1 h)
    have h2:y < x:=UInt8.lt_iff_toNat_lt.2 (by omega)
    rw [if_neg h1,if_pos h2]at hc
    rw [hc,decide_eq_false h3]
    rfl
theorem lt_ntrans (x y z:List UInt8) (h1:ltF x y=false) (h2:ltF y z=false):ltF x z=false:=by
 cases h:ltF x z with
 | false=> rfl
 | true=>
  by_cases e:x=y
  ·rw [e,h2]at h
   cases h
  ·rw [Js.lt_trans y x z (Js.lt_total x y e h1) h]at h2
   cases h2
theorem kept_sort {α:Type} [Inhabited α] (enc:α→Value) (w:World) (g n:Nat) (d:Array α) (os:Array Obj):Kept w (sortWorld enc w g 0 n d os) (·=g):=by
 have hsz:(Sort.putRow enc (Sort.ahead w n) g 0 d).heap.size=w.heap.size:=Sort.size_putRow _ _ _ _ _
 refine ⟨rfl,rfl,rfl,by rw [sortWorld,Go.Sort.size_grow,hsz];omega,fun i hi hne=> ?_⟩
 rw [sortWorld,Sort.heap_grow_old _ _ (by rw [hsz];exact hi)]
 show ((Sort.ahead w n).heap.modify g _)[i]? =_
 rw [Array.getElem?_modify,if_neg (fun e=> hne e.symm)]
 rfl
set_option maxRecDepth 100000 in
set_option maxHeartbeats 1000000 in
theorem js_cmp (W:World) (b:Nat) (p q:Pt) (hp:PtIn W b p) (hq:PtIn W b q):
  Calls Tryz.prog 97 #[p.enc b,q.enc b] W fun e w'=> e= .returned (.int .i64 (Lib.compareBytes (ptKey p) (ptKey q)))∧∃k,w'=W.drewN k:=by
 have c1:=hp.key
 have c2:=hq.key
 have h1:(0:Int) < (p.row.length:Int):=by have:=hp.1;omega
 have h2:(0:Int) < (q.row.length:Int):=by have:=hq.1;omega
 have hcon:Hid (∀W',Calls Tryz.prog 98 #[.string (sb (ptKey p)), .string (sb (ptKey q))] W' fun e w'=> e= .returned (.int .i64 (Lib.compareBytes (ptKey p) (ptKey q)))∧w'=W'):=Lib.hid (fun W'=> by
  have:=Tryz.strings_Compare (sb (ptKey p)) (sb (ptKey q)) W'
  have e:∀l,(sb l).data.toList=l:=fun l=> by rw [sb]
  rw [e,e]at this
  exact this)
 clear hp hq
 unfold Pt.enc
 generalize Lib.compareBytes (ptKey p) (ptKey q)=r at*
 generalize sb (ptKey p)=s1 at*
 generalize sb (ptKey q)=s2 at*
 generalize p.row.length=n1 at*
 generalize q.row.length=n2 at*
 generalize p.cap=k1 at*
 generalize q.cap=k2 at*
 generalize p.off=o1 at*
 generalize q.off=o2 at*
 go_enter Tryz.func97,Tryz.ntmps97
 go_wp2_with fail
 go_quiet ((go_at_call 98;exact Calls.quiet_of_same (hcon.out _)))
 go_wp2_with fail
 go_ret
 exact ⟨rfl,_,rfl⟩
theorem lift_pts {w:World} {b:Nat}:∀Q:List Pt,(∀p∈Q,PtIn w b p)→∃D:List {p:Pt // PtIn w b p},D.map (·.1)=Q
 | [],_=> ⟨[],rfl⟩
 | p::r,h=> by
  obtain ⟨D,hD⟩:=lift_pts r (fun q hq=> h q (List.mem_cons_of_mem _ hq))
  exact ⟨⟨p,h p List.mem_cons_self⟩::D,by rw [List.map_cons,hD]⟩
theorem js_sort (w:World) (B b g n:Nat) (Q:List Pt) (hR:RowsAt w B b (some ⟨g,0,none⟩) n Q) (hg:g < w.heap.size) (hbg:b≠g) (p0:Pt) (h0:PtIn w b p0) (hn:n < 4611686018427387904):
  Calls Tryz.prog 96 #[.slice (some ⟨g,0,none⟩) n n, .func (.func 97) #[] #[]] w fun e w'=>
   e= .returned (.tuple #[])∧∃Q',Hid (Q'.Perm Q∧Q'.Pairwise fun p q=> ltF (ptKey q) (ptKey p)=false)∧Hid (RowsAt w' B b (some ⟨g,0,none⟩) n Q'∧Kept w w' (·=g)):=by
 obtain ⟨D,hD⟩:=lift_pts (w:=w) (b:=b) Q hR.ins
 letI:Inhabited {p:Pt // PtIn w b p}:=⟨⟨p0,h0⟩⟩
 have hDl:D.length=n:=by rw [←hR.len,←hD,List.length_map]
 have hH:Sort.Holds (fun x: {p:Pt // PtIn w b p}=> x.1.enc b) w g 0 D.toArray:=by
  intro j hj
  rw [List.size_toArray]at hj
  obtain ⟨g',e,_,rr⟩:=hR.at_ (by omega)
  cases e
  have e1:D.toArray[j]! =D[j]:=by simp [hj]
  refine ⟨?_, ?_⟩
  ·rw [Nat.zero_add,e1]
   refine rr.cell ?_
   rw [←hD,List.map_map,List.getElem?_map,List.getElem?_eq_getElem hj]
   rfl
  ·exact rr.frozen _
 have eg:∀args w,(callFunc 97 args).run Tryz.prog w= .ok (.enter 97 args) w:=enters_of Tryz.func97 (by kernel_rfl) rfl
 have hKS:=fun (m:Nat) (os:Array Obj) (dk:Array {p:Pt // PtIn w b p})=> kept_sort (fun x: {p:Pt // PtIn w b p}=> x.1.enc b) w g m dk os
 have hin:∀(m:Nat) (os:Array Obj) (dk:Array {p:Pt // PtIn w b p}) (x: {p:Pt // PtIn w b p}),PtIn (sortWorld (fun x: {p:Pt // PtIn w b p}=> x.1.enc b) w g 0 m dk os) b x.1:=fun m os dk x=>
  ⟨x.2.1,x.2.2.kept (hKS m os dk) (fun b' o' e _=> by cases e;exact hbg)⟩
 have hcm:CmpReads Tryz.prog 97 #[] (fun x: {p:Pt // PtIn w b p}=> x.1.enc b) (fun x y=> Lib.compareBytes (ptKey x.1) (ptKey y.1)) g 0 D.toArray.size w:=fun m os dk _ x y=> js_cmp _ b x.1 y.1 (hin m os dk x) (hin m os dk y)
 have hlt:∀x y: {p:Pt // PtIn w b p},ltOf (fun x y: {p:Pt // PtIn w b p}=> Lib.compareBytes (ptKey x.1) (ptKey y.1)) x y=ltF (ptKey x.1) (ptKey y.1):=fun x y=> cmp_lt _ _
 have hO:Sort.SWO (ltOf (fun x y: {p:Pt // PtIn w b p}=> Lib.compareBytes (ptKey x.1) (ptKey y.1))):=⟨fun x=> by rw [hlt];exact Js.lt_irrefl _,fun x y z h1 h2=> by rw [hlt]at*;exact Js.lt_trans _ _ _ h1 h2,fun x y z h1 h2=> by rw [hlt]at*;exact lt_ntrans _ _ _ h1 h2⟩
 have hcon:=Any.slices_SortFunc (P:=Tryz.prog) (ρ:=Tryz.sortR_ren) Tryz.sortR (fun x: {p:Pt // PtIn w b p}=> x.1.enc b) (fun _=> rfl) _ hO 97 #[] g 0 n D.toArray w eg hcm.lays hH hg (by rw [List.size_toArray,hDl];exact hn)
 rw [List.size_toArray,hDl]at hcon
 change Calls Tryz.prog 96 #[.slice (some ⟨g,0,none⟩) n n,_] w _ at hcon
 refine hcon.mono ?_
 rintro e w' ⟨rfl,d',m,os,hp,hs,rfl⟩
 have hsz:d'.size=n:=by rw [hp.1,List.size_toArray,hDl]
 have hperm:d'.toList.Perm D:=by
  have:=hp.2.2
  rw [show D.toArray.extract 0 n=D.toArray by rw [←hDl];simp,show d'.extract 0 n=d' by rw [←hsz];simp]at this
  exact this
 refine ⟨rfl,d'.toList.map (·.1),Lib.hid ⟨by rw [←hD];exact hperm.map _, ?_⟩,Lib.hid ⟨⟨by rw [List.length_map,Array.length_toList,hsz],fun hn0=> ?_, ?_⟩,hKS m os d'⟩⟩
 ·rw [List.pairwise_map,List.pairwise_iff_getElem]
  intro i j hi hj hij
  have h:=hs i j (Nat.zero_le _) hij (by rw [←hsz];simpa using hj)
  rw [hlt]at h
  have e1:d'[j]! =d'.toList[j]:=by simp at hj;simp [hj]
  have e2:d'[i]! =d'.toList[i]:=by simp at hi;simp [hi]
  rw [←e1,←e2]
  exact h
 ·obtain ⟨g',e,hB,rr⟩:=hR.at_ hn0
  cases e
  refine ⟨g,rfl,hB, ?_⟩
  have hH2:=holds_sortWorld (fun x: {p:Pt // PtIn w b p}=> x.1.enc b) w g 0 m D.toArray d' os hg hH (by rw [hsz,List.size_toArray,hDl])
  have hb:(sortWorld (fun x: {p:Pt // PtIn w b p}=> x.1.enc b) w g 0 m d' os).heap[g]? =some (.cells (Sort.putCells (fun x: {p:Pt // PtIn w b p}=> x.1.enc b) 0 d' (Q.map (Pt.enc b)).toArray) 29 (0,0)):=by
   rw [sortWorld,Sort.heap_grow_old _ _ (by rw [Sort.size_putRow];exact hg)]
   show ((Sort.ahead w m).heap.modify g _)[g]? =_
   rw [Array.getElem?_modify,if_pos rfl,show (Sort.ahead w m).heap[g]? =w.heap[g]? from rfl,show w.heap[g]? =_ from rr]
   rfl
  have hps:(Sort.putCells (fun x: {p:Pt // PtIn w b p}=> x.1.enc b) 0 d' (Q.map (Pt.enc b)).toArray).size=n:=by
   rw [Sort.putCells,Array.size_mapIdx,List.size_toArray,List.length_map,hR.len]
  unfold Row
  rw [hb]
  congr 2
  apply Array.ext
  ·rw [hps,List.size_toArray,List.length_map,List.length_map,Array.length_toList,hsz]
  ·intro t h1 h2
   rw [hps]at h1
   have hc:=(hH2 t (by rw [hsz];exact h1)).1
   rw [Nat.zero_add,cell_of_row _ _ _ _ _ _ hb]at hc
   refine Option.some.inj ?_
   rw [←Array.getElem?_eq_getElem,hc,List.getElem_toArray,List.getElem_map,List.getElem_map,getElem!_pos d' t (by rw [hsz];exact h1)]
   rfl
 ·intro p hp2
  obtain ⟨x,_,rfl⟩:=List.mem_map.1 hp2
  exact hin m os d' x
end Go.Proofs.YtmkjcleecjjchaaGreatDoor
