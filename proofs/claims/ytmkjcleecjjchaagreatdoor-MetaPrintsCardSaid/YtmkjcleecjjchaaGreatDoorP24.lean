import Derived.Test.YtmkjcleecjjchaaGreatDoorP7
import Derived.Orders
import Derived.RegionTactic
import Derived.Test.YtmkjcleecjjchaaGreatDoorP9
import Derived.Test.YtmkjcleecjjchaaGreatDoorP10
import Derived.Test.YtmkjcleecjjchaaGreatDoorP5
import Derived.Great.FillDense
import Derived.Test.YtmkjcleecjjchaaGreatDoorP22
import Derived.Test.YtmkjcleecjjchaaGreatDoorP15
import Derived.Test.YtmkjcleecjjchaaGreatDoorP19
import Derived.Test.YtmkjcleecjjchaaGreatDoorP23
namespace Go.Proofs.YtmkjcleecjjchaaGreatDoor
set_option maxRecDepth 100000
theorem any_inv {P:Program} {md:Region.Mode} {ops:Array Oper} {Q:Exit→Act→World→Prop} (Inv:Array Bool→Act→World→Prop)
  (step:∀(listed:Array Bool) (a:Act) (w:World) (i:Nat),i∈Region.ready md ops listed→Inv listed a w→wpOp P ops Q i (Inv (listed.setIfInBounds i true)) a w)
  (stop:∀(listed:Array Bool) (a:Act) (w:World),Region.ready md ops listed=[]→Inv listed a w→Q .normal a w):
  ∀(fuel:Nat) (listed:Array Bool) (a:Act) (w:World),listed.toList.count false≤fuel→Inv listed a w→wpAny P md ops Q fuel listed a w
 | 0,listed,a,w,hf,h=> by
  have hr:Region.ready md ops listed=[]:=by
   cases e:Region.ready md ops listed with
   | nil=> rfl
   | cons i r=>
    have hi:i∈Region.ready md ops listed:=by rw [e];exact List.mem_cons_self
    have h1:=(mem_ready.1 hi).1
    have hlt:i < listed.size:=by
     rcases Nat.lt_or_ge i listed.size with h' | h'
     ·exact h'
     ·rw [Array.getD_eq_getD_getElem?,Array.getElem?_eq_none h']at h1
      cases h1
    rw [Array.getD_eq_getD_getElem?,Array.getElem?_eq_getElem hlt]at h1
    have h2:false∈listed.toList:=by
     have h3:listed[i]=false:=h1
     rw [←h3]
     exact Array.getElem_mem_toList hlt
    have:=List.count_pos_iff.2 h2
    omega
  exact ⟨hr,stop _ _ _ hr h⟩
 | fuel+1,listed,a,w,hf,h=> by
  refine ⟨fun hr=> stop _ _ _ hr h,fun i hi=> ?_⟩
  refine wpOp_mono (fun a' w' h'=> any_inv Inv step stop fuel _ a' w' ?_ h') (step _ _ _ _ hi h)
  have h1:=(mem_ready.1 hi).1
  have hlt:i < listed.size:=by
   rcases Nat.lt_or_ge i listed.size with h' | h'
   ·exact h'
   ·rw [Array.getD_eq_getD_getElem?,Array.getElem?_eq_none h']at h1
    cases h1
  rw [Array.getD_eq_getD_getElem?,Array.getElem?_eq_getElem hlt]at h1
  have h3:listed.toList[i]=false:=h1
  rw [Array.toList_setIfInBounds,List.count_set hlt,h3]
  have h4:0 < listed.toList.count false:=List.count_pos_iff.2 (by rw [←h3];exact List.getElem_mem _)
  simp only [beq_self_eq_true,if_true,show (true==false)=false from rfl,Bool.false_eq_true,if_false]
  omega
theorem op_run {o:Oper} {a:Act} {w:World} {K:Act→World→Prop} {Q:Exit→Act→World→Prop} (v:Value) (w':World) (hrun:(execOp a.eval o).run Tryz.prog w= .ok (.value v) w') (h:K (a.put o.dst v) w'):o.wp Tryz.prog a w K Q:=by
 unfold Oper.wp
 rw [hrun]
 exact h
theorem run_v {s:Sem Value} {w w':World} {v:Value} (h:s.run Tryz.prog w= .ok v w'):(do let x ←s;pure (Next.value x):Sem Next).run Tryz.prog w= .ok (.value v) w':=by
 rw [Sem.run_bind,h]
 rfl
end Go.Proofs.YtmkjcleecjjchaaGreatDoor
namespace Go.Proofs.YtmkjcleecjjchaaGreatDoor
open Go.RowKit Sh Jt Js Jo
namespace Jo
def dv (d:Desc):List Value:= .string (sb d.media)::(d.dig.map v8++[.int .i64 d.size])
def cellsD (L:List Desc):List Value:=L.flatMap dv
def Dig32 (L:List Desc):Prop:=∀d∈L,d.dig.length=32
theorem dv_len {d:Desc} (h:d.dig.length=32):(dv d).length=34:=by
 unfold dv
 rw [List.length_cons,List.length_append,List.length_map,h]
 rfl
theorem dv_one (d:Desc):∀v∈dv d,v.oneCell'=true:=by
 intro v hv
 rcases List.mem_cons.1 hv with rfl | hv
 ·rfl
 rcases List.mem_append.1 hv with hv | hv
 ·obtain ⟨x,_,rfl⟩:=List.mem_map.1 hv
  rfl
 ·rw [List.mem_singleton.1 hv]
  rfl
theorem dv_all (d:Desc):(dv d).toArray.all (·.oneCell')=true:=all_oneCell_toArray (dv_one d)
theorem Dig32.tail {d:Desc} {L:List Desc} (h:Dig32 (d::L)):Dig32 L:=fun x hx=> h x (List.mem_cons_of_mem _ hx)
theorem Dig32.app {L M:List Desc} (h:Dig32 L) (h2:Dig32 M):Dig32 (L++M):=fun x hx=> (List.mem_append.1 hx).elim (h x) (h2 x)
theorem cellsD_len:∀ {L:List Desc},Dig32 L→(cellsD L).length=L.length*34
 | [],_=> rfl
 | d::L,h=> by
  show (dv d++cellsD L).length=_
  rw [List.length_append,dv_len (h d List.mem_cons_self),cellsD_len h.tail,List.length_cons]
  omega
theorem cellsD_app (a b:List Desc):cellsD (a++b)=cellsD a++cellsD b:=by simp [cellsD]
theorem cellsD_at:∀ {L:List Desc},Dig32 L→∀(i j:Nat) (hi:i < L.length),j < 34→(cellsD L)[i*34+j]? =(dv L[i])[j]?
 | d::L,h,0,j,_,hj=> by
  show (dv d++cellsD L)[0*34+j]? =_
  rw [Nat.zero_mul,Nat.zero_add,List.getElem?_append_left (by rw [dv_len (h d List.mem_cons_self)];exact hj)]
  rfl
 | d::L,h,i+1,j,hi,hj=> by
  show (dv d++cellsD L)[(i+1)*34+j]? =_
  have hl:=dv_len (h d List.mem_cons_self)
  rw [List.getElem?_append_right (by omega),hl,show (i+1)*34+j - 34=i*34+j by omega,cellsD_at h.tail i j (by simpa using hi) hj]
  rfl
theorem cellsD_one (L:List Desc):∀v∈cellsD L,v.oneCell'=true:=by
 intro v hv
 obtain ⟨d,_,hd⟩:=List.mem_flatMap.1 hv
 exact dv_one d v hd
def mv (c:Desc) (a b:Value):List Value:=dv c++[a,b]
theorem mv_len {c:Desc} (h:c.dig.length=32) (a b:Value):(mv c a b).length=36:=by
 unfold mv
 rw [List.length_append,dv_len h]
 rfl
theorem mv_at {c:Desc} (h:c.dig.length=32) (a b:Value):(mv c a b)[34]? =some a∧(mv c a b)[35]? =some b:=by
 have hl:=dv_len h
 unfold mv
 refine ⟨?_, ?_⟩
 ·rw [List.getElem?_append_right (by omega),hl]
  rfl
 ·rw [List.getElem?_append_right (by omega),hl]
  rfl
theorem mv_one {c:Desc} {a b:Value} (ha:a.oneCell'=true) (hb:b.oneCell'=true):(mv c a b).toArray.all (·.oneCell')=true:=all_oneCell_toArray (fun v hv=> by
 rcases List.mem_append.1 hv with hv | hv
 ·exact dv_one c v hv
 rcases List.mem_cons.1 hv with rfl | hv
 ·exact ha
 ·rw [List.mem_singleton.1 hv]
  exact hb)
def noD:Desc:=⟨[],List.replicate 32 0,0⟩
def orD (o:Option Desc):Desc:=o.getD noD
theorem noD_len:noD.dig.length=32:=rfl
end Jo
structure DescsAt (w:World) (A:Option Addr) (n c:Nat) (L:List Desc):Prop where
 len:L.length=n
 cap:n≤c
 dig:Dig32 L
 at_:0 < n→∃b o,A=some ⟨b,o,none⟩∧b < w.heap.size∧w.rangeAt b o (cellsD L)
theorem DescsAt.nil (w:World) (A:Option Addr) (c:Nat):DescsAt w A 0 c []:=⟨rfl,Nat.zero_le _,fun _ h=> (by cases h),fun h=> absurd h (by decide)⟩
theorem DescsAt.kept {w w':World} {S:Nat→Prop} {A:Option Addr} {n c:Nat} {L:List Desc} (h:DescsAt w A n c L) (k:Kept w w' S) (hS:∀b o,A=some ⟨b,o,none⟩→b < w.heap.size→¬S b):DescsAt w' A n c L:=
 ⟨h.len,h.cap,h.dig,fun hn=> by
  obtain ⟨b,o,e,hlt,hr⟩:=h.at_ hn
  exact ⟨b,o,e,Nat.lt_of_lt_of_le hlt k.size,rangeAt_kept hr k (hS b o e hlt)⟩⟩
theorem DescsAt.below {w w':World} {A:Option Addr} {n c:Nat} {L:List Desc} (h:DescsAt w A n c L) (hb:Below w.heap.size w w'):DescsAt w' A n c L:=
 h.kept (kept_below hb) (fun _ _ _ _ h=> h)
theorem DescsAt.one {w:World} {b o n c:Nat} {L:List Desc} (h:DescsAt w (some ⟨b,o,none⟩) n c L) {i:Nat} (hi:i < L.length):w.rangeAt b (o+i*34) (dv L[i]):=by
 obtain ⟨b',o',e,_,hr⟩:=h.at_ (by have:=h.len;omega)
 cases e
 intro j v hj
 have hj34:j < 34:=by
  have:=(List.getElem?_eq_some_iff.1 hj).1
  rwa [dv_len (h.dig _ (List.getElem_mem hi))]at this
 rw [Nat.add_assoc]
 exact hr _ _ (by rw [cellsD_at h.dig i j hi hj34];exact hj)
structure OwnDescs (w:World) (B:Nat) (v:Value) (L:List Desc):Prop where
 dig:Dig32 L
 row:w.ownsRow B 27 34 v L.length (cellsD L)
theorem OwnDescs.nil (w:World) (B:Nat):OwnDescs w B (.slice none 0 0) []:=⟨fun _ h=> (by cases h),rfl, .inl ⟨rfl,rfl⟩⟩
theorem OwnDescs.kept {w w':World} {S:Nat→Prop} {B:Nat} {v:Value} {L:List Desc} (h:OwnDescs w B v L) (k:Kept w w' S) (hS:∀b,v.ownBlock=some b→¬S b):OwnDescs w' B v L:=by
 obtain ⟨hd,hl,h1 | ⟨g,cap,cur,rfl,hg,hh,hn,hc,hs,ht⟩⟩:=h
 ·exact ⟨hd,hl, .inl h1⟩
 ·exact ⟨hd,hl, .inr ⟨g,cap,cur,rfl,hg,(k.block g (Array.getElem?_eq_some_iff.1 hh).1 (hS g rfl)).trans hh,hn,hc,hs,ht⟩⟩
theorem OwnDescs.below {w w':World} {B:Nat} {v:Value} {L:List Desc} (h:OwnDescs w B v L) (hb:Below w.heap.size w w'):OwnDescs w' B v L:=h.kept (kept_below hb) (fun _ _ h=> h)
theorem OwnDescs.mono {w:World} {B B':Nat} {v:Value} {L:List Desc} (h:OwnDescs w B v L) (hB:B'≤B):OwnDescs w B' v L:=by
 obtain ⟨hd,hl,h1 | ⟨g,cap,cur,rfl,hg,rest⟩⟩:=h
 ·exact ⟨hd,hl, .inl h1⟩
 ·exact ⟨hd,hl, .inr ⟨g,cap,cur,rfl,Nat.le_trans hB hg,rest⟩⟩
theorem OwnDescs.descs {w:World} {B:Nat} {v:Value} {L:List Desc} (h:OwnDescs w B v L):∃(A:Option Addr) (c:Nat),v= .slice A L.length c∧DescsAt w A L.length c L∧(A=none→c=0)∧(∀a,A=some a→∃g,a=⟨g,0,none⟩∧B≤g∧g < w.heap.size)∧c≤maxLen:=by
 obtain ⟨hd,hl,⟨rfl,h0⟩ | ⟨g,cap,cur,rfl,hg,hh,hn,hc,hs,ht⟩⟩:=h
 ·have:L=[]:=List.eq_nil_of_length_eq_zero h0
  subst this
  exact ⟨none,0,rfl,DescsAt.nil w _ _,fun _=> rfl,(fun a e=> by cases e),Nat.zero_le _⟩
 ·have hlt:=(Array.getElem?_eq_some_iff.1 hh).1
  refine ⟨some ⟨g,0,none⟩,cap,rfl,⟨rfl,hn,hd,fun _=> ⟨g,0,rfl,hlt,fun j u hj=> ?_⟩⟩,(fun e=> by cases e),fun a e=> ⟨g,(Option.some.inj e).symm,hg,hlt⟩,hc⟩
  have hjl:=(List.getElem?_eq_some_iff.1 hj).1
  rw [cellsD_len hd]at hjl
  rw [cell_of_row _ _ _ _ _ _ hh,Nat.zero_add,←hj,←ht,List.getElem?_take,if_pos hjl]
  simp
theorem mt_infoZ:∃i z,Tryz.prog.info? 27=some i∧i.zero=some z∧i.size=34∧i.bytes=56∧z.cells.size=34:=by
 have h:(Tryz.prog.info? 27).map (fun i=> (i.zero.map (fun z=> z.cells.size),i.size,i.bytes))=some (some 34,34,56):=by kernel_rfl
 obtain ⟨i,hi,hz⟩:=Option.map_eq_some_iff.1 h
 simp only [Prod.mk.injEq]at hz
 obtain ⟨z,h1,h2⟩:=Option.map_eq_some_iff.1 hz.1
 exact ⟨i,z,hi,h1,hz.2.1,hz.2.2,h2⟩
theorem mt_sizeD:(Tryz.prog.info? 27).map (·.size)=some 34:=by kernel_rfl
theorem mt_sizeM:(Tryz.prog.info? 31).map (·.size)=some 36:=by kernel_rfl
theorem build_desc1 {ops:Array Oper} {rest:List Oper} {o:Oper} {a:Act} {w:World} {Q:Exit→Act→World→Prop} (hg:o.guard=none) (x:Operand) (ho:o.op= .buildSlice 28 1 #[(0,x)]) (d:Desc) (C:Array Value) (hC:C=(dv d).toArray) (hd:d.dig.length=32) (hx:a.eval x= .agg C)
  (h:wpList Tryz.prog ops Q rest (a.put o.dst (.slice (some ⟨w.heap.size,0,none⟩) 1 1)) (w.alloc (.cells C 27))):wpList Tryz.prog ops Q (o::rest) a w:=by
 subst hC
 obtain ⟨i,z,hi,hz,hsz,_,hzc⟩:=mt_infoZ
 refine wpList_buildSlice hg 28 27 1 #[(0,x)] ho (dv d).toArray i z Tryz.underlying28 hi hz (by rw [hsz];decide) (by rw [hsz];decide) ?_ h
 rw [hsz]
 have e:(Array.map (fun (p:Nat×Operand)=> (p.1,a.eval p.2)) #[(0,x)]).toList=(([d].map fun e=> Value.agg (dv e).toArray).zipIdx 0).map fun x=> (x.2,x.1):=by simp [hx]
 show Instr.fill _ _ (Array.map (fun (p:Nat×Operand)=> (p.1,a.eval p.2)) #[(0,x)]).toList=_
 rw [e]
 rw [Great.fill_whole (s:=34) (by decide) _ _ (fun v hv=> by
  obtain ⟨e,he,rfl⟩:=List.mem_map.1 hv
  rw [List.mem_singleton.1 he]
  show (dv d).toArray.size=34
  rw [List.size_toArray,dv_len hd]) (by simp),List.flatMap_map]
 show some (dv d++[]).toArray=_
 rw [List.append_nil]
theorem append_descs {w:World} {ops:Array Oper} {rest:List Oper} {o:Oper} {a:Act} {Q:Exit→Act→World→Prop} (hg:o.guard=none) (s x:Operand)
  (ho:o.op= .call {callee:= .builtin .append,args:=#[s,x],argTypes:=#[28,28]}) (B:Nat) (v:Value) (L:List Desc) (hs:a.eval s=v) (hown:OwnDescs w B v L)
  (ad:Addr) (n c:Nat) (M:List Desc) (hx:a.eval x= .slice (some ad) n c) (hsrc:DescsAt w (some ad) n c M) (hb:L.length+n≤100000000000) (hB:B≤w.heap.size)
  (h:∀v' w',Hid (OwnDescs w' B v' (L++M))→Hid (Kept w w' (fun k=> B≤k∧v.ownBlock=some k))→Hid (∀k,v'.ownBlock=some k→v.ownBlock=some k∨w.heap.size≤k)→wpList Tryz.prog ops Q rest (a.put o.dst v') w'):wpList Tryz.prog ops Q (o::rest) a w:=by
 obtain ⟨i,z,hi,hz,hsz,hby,hzc⟩:=mt_infoZ
 have hlen:=hsrc.len
 have hnews:∀j u,(cellsD M)[j]? =some u→w.cell? (ad.add j)=some u:=by
  intro j u hj
  have hjl:=(List.getElem?_eq_some_iff.1 hj).1
  rw [cellsD_len hsrc.dig]at hjl
  obtain ⟨b,off,e,_,hr⟩:=hsrc.at_ (by omega)
  simp only [Option.some.injEq]at e
  subst e
  rw [Addr.add_mid]
  exact hr j u hj
 obtain ⟨v',w',hr,h2,h3,h4,h5⟩:=run_append_own_at (P:=Tryz.prog) w B 28 o.type 27 i z 34 56 Tryz.underlying28 hi hz hsz hby hzc (by decide) v L.length (cellsD L) hown.row ad n c (cellsD M)
  (by rw [cellsD_len hsrc.dig,hlen]) hnews (cellsD_one M) (by unfold maxLen;omega) (by omega) hB
 refine wpList_wanted (by simp [Region.wanted,hg]) fun K hK=> ?_
 unfold Oper.wp execOp
 simp only [ho,resolve,invoke,builtin,Sem.run_bind,Sem.run_pure,Result.andThen_ok,List.map_toArray,List.map_cons,List.map_nil,hs,hx,hr]
 refine hK _ _ (h v' w' ?_ ?_ ?_)
 ·refine ⟨hown.dig.app hsrc.dig, ?_⟩
  rw [List.length_append,hlen,cellsD_app]
  exact h2
 ·refine ⟨h3.os,h3.tape,h3.output,h3.size,fun k hk hn=> h3.block k hk (fun e=> hn ?_)⟩
  obtain ⟨_,_,⟨rfl,_⟩ | ⟨g,cap,cur,rfl,hg,_⟩⟩:=hown
  ·cases e
  ·have e':g=k:=by simpa [Value.ownBlock] using e.symm
   subst e'
   exact ⟨hg,rfl⟩
 ·intro k hk
  rcases h5 with h5 | h5
  ·exact .inl (h5▸hk)
  ·rw [h5]at hk
   exact .inr (Nat.le_of_eq (Option.some.inj hk))
theorem built_desc (m:List UInt8) (n:Int):∀g:List UInt8,g.length=32→Tryz.prog.built 27 [(0, .string (sb m)),(1, .agg (g.map v8).toArray),(2, .int .i64 n)]=some (dv ⟨m,g,n⟩).toArray
 | [x0,x1,x2,x3,x4,x5,x6,x7,x8,x9,x10,x11,x12,x13,x14,x15,x16,x17,x18,x19,x20,x21,x22,x23,x24,x25,x26,x27,x28,x29,x30,x31],_=> by
  unfold dv
  show Tryz.prog.built 27 [(0, .string (sb m)),(1, .agg #[v8 x0,v8 x1,v8 x2,v8 x3,v8 x4,v8 x5,v8 x6,v8 x7,v8 x8,v8 x9,v8 x10,v8 x11,v8 x12,v8 x13,v8 x14,v8 x15,v8 x16,v8 x17,v8 x18,v8 x19,v8 x20,v8 x21,v8 x22,v8 x23,v8 x24,v8 x25,v8 x26,v8 x27,v8 x28,v8 x29,v8 x30,v8 x31]),(2, .int .i64 n)]=some #[.string (sb m),v8 x0,v8 x1,v8 x2,v8 x3,v8 x4,v8 x5,v8 x6,v8 x7,v8 x8,v8 x9,v8 x10,v8 x11,v8 x12,v8 x13,v8 x14,v8 x15,v8 x16,v8 x17,v8 x18,v8 x19,v8 x20,v8 x21,v8 x22,v8 x23,v8 x24,v8 x25,v8 x26,v8 x27,v8 x28,v8 x29,v8 x30,v8 x31, .int .i64 n]
  generalize sb m=s
  generalize v8 x0=y0,v8 x1=y1,v8 x2=y2,v8 x3=y3,v8 x4=y4,v8 x5=y5,v8 x6=y6,v8 x7=y7,v8 x8=y8,v8 x9=y9,v8 x10=y10,v8 x11=y11,v8 x12=y12,v8 x13=y13,v8 x14=y14,v8 x15=y15,v8 x16=y16,v8 x17=y17,v8 x18=y18,v8 x19=y19,v8 x20=y20,v8 x21=y21,v8 x22=y22,v8 x23=y23,v8 x24=y24,v8 x25=y25,v8 x26=y26,v8 x27=y27,v8 x28=y28,v8 x29=y29,v8 x30=y30,v8 x31=y31
  kernel_rfl
theorem built_none:Tryz.prog.built 27 []=some (dv noD).toArray:=by kernel_rfl
theorem built_man_any (A1 A2:Option Addr) (n1 c1 n2 c2:Nat) (x0 x1 x2 x3 x4 x5 x6 x7 x8 x9 x10 x11 x12 x13 x14 x15 x16 x17 x18 x19 x20 x21 x22 x23 x24 x25 x26 x27 x28 x29 x30 x31 x32 x33:Value):Tryz.prog.built 31 [(0, .agg #[x0,x1,x2,x3,x4,x5,x6,x7,x8,x9,x10,x11,x12,x13,x14,x15,x16,x17,x18,x19,x20,x21,x22,x23,x24,x25,x26,x27,x28,x29,x30,x31,x32,x33]),(1, .slice A1 n1 c1),(2, .slice A2 n2 c2)]=some #[x0,x1,x2,x3,x4,x5,x6,x7,x8,x9,x10,x11,x12,x13,x14,x15,x16,x17,x18,x19,x20,x21,x22,x23,x24,x25,x26,x27,x28,x29,x30,x31,x32,x33, .slice A1 n1 c1, .slice A2 n2 c2]:=by kernel_rfl
theorem built_man (A1 A2:Option Addr) (n1 c1 n2 c2:Nat):∀C:List Value,C.length=34→Tryz.prog.built 31 [(0, .agg C.toArray),(1, .slice A1 n1 c1),(2, .slice A2 n2 c2)]=some (C++[Value.slice A1 n1 c1,Value.slice A2 n2 c2]).toArray
 | x0::x1::x2::x3::x4::x5::x6::x7::x8::x9::x10::x11::x12::x13::x14::x15::x16::x17::x18::x19::x20::x21::x22::x23::x24::x25::x26::x27::x28::x29::x30::x31::x32::x33::[],_=> built_man_any A1 A2 n1 c1 n2 c2 x0 x1 x2 x3 x4 x5 x6 x7 x8 x9 x10 x11 x12 x13 x14 x15 x16 x17 x18 x19 x20 x21 x22 x23 x24 x25 x26 x27 x28 x29 x30 x31 x32 x33
theorem built_manD {c:Desc} (h:c.dig.length=32) (A1 A2:Option Addr) (n1 c1 n2 c2:Nat):Tryz.prog.built 31 [(0, .agg (dv c).toArray),(1, .slice A1 n1 c1),(2, .slice A2 n2 c2)]=some (mv c (.slice A1 n1 c1) (.slice A2 n2 c2)).toArray:=built_man A1 A2 n1 c1 n2 c2 (dv c) (dv_len h)
theorem built_manZ:Tryz.prog.built 31 []=some (mv noD (.slice none 0 0) (.slice none 0 0)).toArray:=by kernel_rfl
end Go.Proofs.YtmkjcleecjjchaaGreatDoor
namespace Go.Proofs.YtmkjcleecjjchaaGreatDoor
open Go.RowKit Sh Jt Js Jo
namespace Jo
theorem get_head {L:List V} {key:List UInt8} {p:Nat} (h:getA L 0 key=some p):∃hp:p < L.length,kindOf (ofKey L key)=L[p].kind∧textOf (ofKey L key)=L[p].text:=by
 have hO:isO L=true:=by
  unfold getA at h
  split at h
  next hc=>
   unfold isO
   have h1:=hc.1
   have h2:=hc.2
   unfold placeB at h1
   rw [Bool.and_eq_true]at h1
   rw [h1.2,Bool.true_and,decide_eq_true_eq]
   exact h2
  next=> cases h
 obtain ⟨P,hP⟩:=obj_is hO
 have hg:=h
 rw [hP.get]at hg
 obtain ⟨j,hj,rfl⟩:=Option.map_eq_some_iff.1 hg
 obtain ⟨hj2,_,_⟩:=idx_some hj
 obtain ⟨hp,_,_⟩:=hP.at_ hj2
 obtain ⟨_,_,_,h0⟩:=cut_right hP.right hp
 refine ⟨hp, ?_⟩
 have e:ofKey L key=named [] ((L.drop (1+offs P j)).take (rowE L (1+offs P j))):=by
  unfold ofKey
  rw [h]
  show cutA L ((1+offs P j:Nat):Int)=_
  unfold cutA placeB
  rw [hP.right,Bool.and_true,if_pos (decide_eq_true (by omega)),Int.toNat_natCast]
 obtain ⟨k,hk⟩:∃k,rowE L (1+offs P j)=k+1:=⟨rowE L (1+offs P j) - 1,by omega⟩
 rw [e,hk,List.drop_eq_getElem_cons hp,List.take_succ_cons]
 exact ⟨rfl,rfl⟩
theorem mem_is {L:List V} {key:List UInt8} {p:Nat} (h:getA L 0 key=some p) {hp:p < L.length} (k:Int):memF L key k=if L[p].kind=k then some L[p].text else none:=by
 obtain ⟨_,h1,h2⟩:=get_head h
 unfold memF tellF
 rw [h1,h2]
theorem mem_none {L:List V} {key:List UInt8} (h:getA L 0 key=none) {k:Int} (hk:k≠ -1):memF L key k=none:=by
 unfold memF tellF
 rw [key_none h]
 exact if_neg fun e=> hk e.symm
end Jo
set_option maxRecDepth 100000 in
set_option maxHeartbeats 4000000 in
theorem mt_member (w:World) (A:Option Addr) (n c:Nat) (L:List V) (hL:ValsAt w A n c L) (hn:n≤250000) (hs:Short 1000000000 L) (hT:TabOk w) (key:List UInt8) (k:Int) (hk:0≤k):
  Calls Tryz.prog 58 #[.slice A n c, .string (sb key), .int .i64 k] w fun e w'=> e= .returned (.tuple #[.string (sb ((memF L key k).getD [])), .bool (memF L key k).isSome])∧Hid (Below w.heap.size w w'):=by
 have HG:=Lib.hid (jo_get w A n c L hL hn hs hT 0 key)
 have hlen:=hL.len
 cases hg:getA L 0 key with
 | none=>
  rw [hg]at HG
  have HM:=Lib.hid (mem_none hg (k:=k) (by omega))
  change Hid (Calls _ _ _ _ fun e w'=> e= .returned (.int .i64 (-1))∧_)at HG
  clear hL hs hT hg
  generalize memF L key k=R at*
  generalize sb key=K at*
  go_enter Tryz.func58,Tryz.ntmps58
  go_wp2_with fail
  refine HG.out.mono ?_
  rintro e w2 ⟨rfl,HB⟩
  clear HG
  go_wp2_with fail
  go_ret2
  refine ⟨?_,HB⟩
  rw [HM.out]
  rfl
 | some p=>
  rw [hg]at HG
  obtain ⟨hp,_,_⟩:=get_head hg
  have hm:=mem_is hg (hp:=hp) k
  have HVA:=Lib.hid (fun W (q:Below w.heap.size w W)=> hL.below q)
  obtain ⟨b,o,rfl,hbl,_⟩:=hL.at_ (by omega)
  have HC:=Lib.hid (fun W (q:Below w.heap.size w W)=> (hL.below q).cells hp)
  change Hid (Calls _ _ _ _ fun e w'=> e= .returned (.int .i64 (p:Int))∧_)at HG
  have hp9:(p:Int) < (n:Int):=by omega
  have hq:((p:Int)== -1)=false:=beq_eq_false_iff_ne.2 (by omega)
  have HM:=Lib.hid hm
  clear hL hs hT hg hm HVA
  generalize memF L key k=R at*
  generalize sb key=K at*
  generalize L[p]=v at*
  go_enter Tryz.func58,Tryz.ntmps58
  go_wp2_with fail
  refine HG.out.mono ?_
  rintro e w2 ⟨rfl,HB⟩
  obtain ⟨x0,_,x2,_⟩:=HC.out w2 HB.out
  clear HG HC
  by_cases he:v.kind=k
  ·have hne:(v.kind !=k)=false:=by rw [he];simp
   have HE:=Lib.hid he
   clear he
   generalize v.kind=vk at*
   generalize hvt:sb v.text=vt at*
   have HVT:=Lib.hid hvt
   clear hvt
   go_wp2_with fail
   go_ret2
   refine ⟨?_,HB⟩
   rw [HM.out,if_pos HE.out,Option.getD_some,HVT.out]
   rfl
  ·have hne:(v.kind !=k)=true:=by rw [bne_iff_ne];exact he
   have HE:=Lib.hid he
   clear he
   generalize v.kind=vk at*
   generalize sb v.text=vt at*
   go_wp2_with fail
   go_ret2
   refine ⟨?_,HB⟩
   rw [HM.out,if_neg HE.out]
   rfl
set_option maxRecDepth 100000 in
set_option maxHeartbeats 4000000 in
theorem mt_has (w:World) (A:Option Addr) (n c:Nat) (L:List V) (hL:ValsAt w A n c L) (hn:n≤250000) (hs:Short 1000000000 L) (hT:TabOk w):
  Calls Tryz.prog 28 #[.slice A n c] w fun e w'=> e= .returned (.bool (hasF L))∧Hid (Below w.heap.size w w'):=by
 have HM:=Lib.hid (mt_member w A n c L hL hn hs hT schemaK 3 (by decide))
 have HF:=Lib.hid (show hasF L=decide (memF L schemaK 3=some [50])from rfl)
 clear hL hs hT
 change Hid (Calls _ _ #[.slice A n c, .string ⟨#[115,99,104,101,109,97,86,101,114,115,105,111,110]⟩, .int .i64 3] _ _)at HM
 generalize hasF L=R at*
 generalize memF L schemaK 3=T at*
 go_enter Tryz.func28,Tryz.ntmps28
 go_wp2_with fail
 refine HM.out.mono ?_
 rintro e w2 ⟨rfl,HB⟩
 clear HM
 cases T with
 | none=>
  change Hid (R=decide (none=some [50]))at HF
  simp only [Option.getD_none,Option.isSome_none]
  go_wp2_with fail
  go_ret
  refine ⟨?_,HB⟩
  rw [HF.out]
  rfl
 | some t=>
  simp only [Option.getD_some,Option.isSome_some]
  have h2:((sb t).toList==[50])=decide (t=[50]):=by
   rw [sb_list]
   by_cases ht:t=[50]
   ·subst ht;rfl
   ·rw [decide_eq_false ht,beq_eq_false_iff_ne];exact ht
  have HR:Hid (R=decide (t=[50])):=Lib.hid (by
   rw [HF.out]
   exact decide_eq_decide.2 ⟨fun e=> Option.some.inj e,fun e=> by rw [e]⟩)
  clear HF
  generalize decide (t=[50])=q at*
  generalize sb t=T at*
  have H2:=Lib.hid h2
  clear h2
  go_wp2_with fail
  go_ret
  exact ⟨by rw [HR.out,←H2.out];rfl,HB⟩
theorem mt_isSize (w:World) (n:Int) (_h0: -9223372036854775808≤n) (_h1:n≤9223372036854775807):
  Calls Tryz.prog 61 #[.int .i64 n] w fun e w'=> e= .returned (.bool (sizeOk n))∧w'=w:=by
 have HS:=Lib.hid (show sizeOk n=decide (0≤n∧n≤4611686018427387904)from rfl)
 generalize sizeOk n=R at*
 by_cases ha:0≤n
 ·by_cases hb:n≤4611686018427387904
  ·have HR:Hid (R=true):=Lib.hid (by rw [HS.out];exact decide_eq_true ⟨ha,hb⟩)
   clear HS
   go_enter Tryz.func61,Tryz.ntmps61
   go_wp2_with fail
   go_ret
   exact ⟨by rw [HR.out];rfl,rfl⟩
  ·have HR:Hid (R=false):=Lib.hid (by rw [HS.out];exact decide_eq_false fun h=> hb h.2)
   clear HS
   go_enter Tryz.func61,Tryz.ntmps61
   go_wp2_with fail
   go_ret
   exact ⟨by rw [HR.out];rfl,rfl⟩
 ·have HR:Hid (R=false):=Lib.hid (by rw [HS.out];exact decide_eq_false fun h=> ha h.1)
  clear HS
  go_enter Tryz.func61,Tryz.ntmps61
  go_wp2_with fail
  go_ret
  exact ⟨by rw [HR.out];rfl,rfl⟩
end Go.Proofs.YtmkjcleecjjchaaGreatDoor
namespace Go.Proofs.YtmkjcleecjjchaaGreatDoor
open Go.RowKit Sh Jt Js Jo
structure MEnv (w:World):Prop where
 js:JsEnv w
 j:JEnv w
theorem MEnv.below {w w':World} (h:MEnv w) (k:Below w.heap.size w w'):MEnv w':=⟨h.js.below k,h.j.below k⟩
namespace Jo
theorem mem_short {L:List V} {m:Nat} (hs:Short m L) {key t:List UInt8} {k:Int} (hk:k≠ -1) (h:memF L key k=some t):t.length≤m:=by
 cases hg:getA L 0 key with
 | none=> rw [mem_none hg hk]at h;cases h
 | some p=>
  obtain ⟨hp,_,_⟩:=get_head hg
  rw [mem_is hg (hp:=hp)]at h
  split at h
  ·rw [←Option.some.inj h]
   exact (hs _ (List.getElem_mem hp)).2
  ·cases h
theorem mem_pos {L:List V} {key t:List UInt8} {k:Int} (hk:k≠ -1) (h:memF L key k=some t):∃v r,L=v::r:=by
 have hO:=(mem_some hk h).1
 unfold isO at hO
 rw [Bool.and_eq_true]at hO
 have h0:=(right_end hO.1).2.1
 match L,h0 with
 | v::r,_=> exact ⟨v,r,rfl⟩
theorem desc_of {L:List V} {m g s:List UInt8} (h1:memF L mediaK 4=some m) (h2:memF L digK 4=some g) (h3:memF L sizeK 3=some s):descF L=if countOf L=3 then (Dg.parse g).bind fun x=> (intF s).bind fun n=> if sizeOk n=true then some ⟨m,x,n⟩ else none else none:=by
 unfold descF
 rw [h1,h2,h3]
 rfl
theorem desc_no1 {L:List V} (h1:memF L mediaK 4=none):descF L=none:=by unfold descF;rw [h1];rfl
theorem desc_no2 {L:List V} {m:List UInt8} (h1:memF L mediaK 4=some m) (h2:memF L digK 4=none):descF L=none:=by unfold descF;rw [h1,h2];rfl
theorem desc_no3 {L:List V} {m g:List UInt8} (h1:memF L mediaK 4=some m) (h2:memF L digK 4=some g) (h3:memF L sizeK 3=none):descF L=none:=by unfold descF;rw [h1,h2,h3];rfl
end Jo
structure RdAt (w wr:World):Prop where
 res:Row wr w.heap.size 27 (dv noD)
 below:Below w.heap.size w wr
theorem RdAt.next {w wr w':World} (h:RdAt w wr) (hb:Below wr.heap.size wr w'):RdAt w w':=⟨h.res.below hb h.res.lt,h.below.trans (hb.mono h.below.size)⟩
theorem RdAt.new (w:World) {C:Array Value} (hC:C=(dv noD).toArray):RdAt w (w.alloc (.cells C 27)):=by
 subst hC
 exact ⟨Row.new _ _ _,below_alloc _ _⟩
theorem dv_size {d:Desc} (h:d.dig.length=32):(Tryz.prog.info? 27).map (·.size)=some (dv d).length:=by rw [dv_len h];exact mt_sizeD
theorem dv_sizeA {d:Desc} (h:d.dig.length=32):(Tryz.prog.info? 27).map (·.size)=some (dv d).toArray.size:=by rw [List.size_toArray];exact dv_size h
theorem own_row {w wr w':World} (h:Below w.heap.size w wr) (k:Kept wr w' (·=w.heap.size)):Below w.heap.size w w':=
 h.trans (⟨k.os,k.tape,k.output,k.size,fun i hi=> k.block i (Nat.lt_of_lt_of_le hi h.size) (fun e=> by omega)⟩)
set_option maxRecDepth 100000 in
set_option maxHeartbeats 8000000 in
theorem mt_readDesc (w:World) (A:Option Addr) (n c:Nat) (L:List V) (hL:ValsAt w A n c L) (hn:n≤250000) (hs:Short 1000000000 L) (hE:MEnv w):
  Calls Tryz.prog 26 #[.slice A n c] w fun e w'=> e= .returned (.tuple #[.agg (dv (orD (descF L))).toArray, .bool (descF L).isSome])∧Hid (Below w.heap.size w w'):=by
 have HM1:=Lib.hid (fun W (q:Below w.heap.size w W)=> mt_member W A n c L (hL.below q) hn hs (hE.j.tab.below q) mediaK 4 (by decide))
 have HM2:=Lib.hid (fun W (q:Below w.heap.size w W)=> mt_member W A n c L (hL.below q) hn hs (hE.j.tab.below q) digK 4 (by decide))
 have HM3:=Lib.hid (fun W (q:Below w.heap.size w W)=> mt_member W A n c L (hL.below q) hn hs (hE.j.tab.below q) sizeK 3 (by decide))
 have HEE:=Lib.hid hE
 have HVA:=Lib.hid (fun W (q:Below w.heap.size w W)=> hL.below q)
 have HN1:=Lib.hid (desc_no1 (L:=L))
 have HN2:=Lib.hid (fun m=> desc_no2 (L:=L) (m:=m))
 have HN3:=Lib.hid (fun m g=> desc_no3 (L:=L) (m:=m) (g:=g))
 have HOF:=Lib.hid (fun m g s=> desc_of (L:=L) (m:=m) (g:=g) (s:=s))
 have HSH:=Lib.hid (fun s=> mem_short hs (key:=sizeK) (k:=3) (t:=s) (by decide))
 have HPO:=Lib.hid (fun m=> mem_pos (L:=L) (key:=mediaK) (t:=m) (k:=4) (by decide))
 have hlen:=hL.len
 have hAA:=hL.at_
 have HAA:=Lib.hid hAA
 clear hL hs hE hAA
 change Hid (∀W,_→Calls _ _ #[.slice A n c, .string ⟨#[109,101,100,105,97,84,121,112,101]⟩, .int .i64 4] _ _)at HM1
 change Hid (∀W,_→Calls _ _ #[.slice A n c, .string ⟨#[100,105,103,101,115,116]⟩, .int .i64 4] _ _)at HM2
 change Hid (∀W,_→Calls _ _ #[.slice A n c, .string ⟨#[115,105,122,101]⟩, .int .i64 3] _ _)at HM3
 generalize hR1:memF L mediaK 4=R1 at*
 generalize hR2:memF L digK 4=R2 at*
 generalize hR3:memF L sizeK 3=R3 at*
 have HD:=Lib.hid (rfl:descF L=descF L)
 generalize hX:descF L=X at*
 have HX:=Lib.hid hX
 clear hR1 hR2 hR3 hX HD
 go_enter Tryz.func26,Tryz.ntmps26
 go_upto_region 1 with fail
 have P0:Hid (RdAt w (w.alloc (Obj.cells (dv noD).toArray 27))):=Lib.hid (RdAt.new w rfl)
 generalize hW0:w.alloc (Obj.cells (dv noD).toArray 27)=w0 at P0
 generalize hW:World.alloc _ _=W'
 obtain rfl:w0=W':=hW0.symm.trans hW
 clear hW hW0
 go_wp2_with fail
 refine (HM1.out w0 P0.out.below).mono ?_
 rintro e w1 ⟨rfl,K1⟩
 have P1:=Lib.hid (P0.out.next K1.out)
 clear P0 K1 HM1
 go_wp2_with fail
 refine (HM2.out w1 P1.out.below).mono ?_
 rintro e w2 ⟨rfl,K2⟩
 have P2:=Lib.hid (P1.out.next K2.out)
 clear P1 K2 HM2
 go_wp2_with fail
 refine (HM3.out w2 P2.out.below).mono ?_
 rintro e w3 ⟨rfl,K3⟩
 have P3:=Lib.hid (P2.out.next K3.out)
 clear P2 K3 HM3
 cases R1 with
 | none=>
  have hx:X=none:=HN1.out rfl
  subst hx
  simp only [Option.getD_none,Option.isSome_none]
  generalize R2.isSome=b2
  generalize R3.isSome=b3
  generalize sb (R2.getD [])=s2
  generalize sb (R3.getD [])=s3
  go_wp2_with (first
   | ((with_reducible refine build_all ?_ 27 #[] ?_ (dv noD).toArray ?_ ?_);rfl;rfl;go_must (refine Eq.trans ?_ built_none;kernel_rfl))
   | ((with_reducible refine store_all ?_ 27 (.tmp 2) (.tmp 46) ?_ w.heap.size (dv noD) ?_ ?_ (dv noD) ?_ ?_ ?_ ?_ ?_);rfl;rfl;go_must (rfl;rfl;rfl;exact P3.out.res;exact dv_size noD_len;exact dv_all _;intro w6 R6 K6 E6)))
  refine bodyPost_ret (v:= .tuple #[.agg (dv noD).toArray, .bool false]) (results_row_tmp (fn:=Tryz.f26) (p:=2) (u:=3) rfl _ _ w.heap.size _ (dv noD).toArray _ _ rfl R6.out Tryz.underlying27 rfl (dv_sizeA noD_len)) rfl ⟨rfl, ?_⟩
  exact Lib.hid (own_row P3.out.below K6.out)
 | some m=>
  simp only [Option.getD_some,Option.isSome_some]
  cases R2 with
  | none=>
   have hx:X=none:=HN2.out m rfl rfl
   subst hx
   simp only [Option.getD_none,Option.isSome_none]
   generalize R3.isSome=b3
   generalize sb (R3.getD [])=s3
   generalize sb m=s1
   go_wp2_with (first
    | ((with_reducible refine build_all ?_ 27 #[] ?_ (dv noD).toArray ?_ ?_);rfl;rfl;go_must (refine Eq.trans ?_ built_none;kernel_rfl))
    | ((with_reducible refine store_all ?_ 27 (.tmp 2) (.tmp 46) ?_ w.heap.size (dv noD) ?_ ?_ (dv noD) ?_ ?_ ?_ ?_ ?_);rfl;rfl;go_must (rfl;rfl;rfl;exact P3.out.res;exact dv_size noD_len;exact dv_all _;intro w6 R6 K6 E6)))
   refine bodyPost_ret (v:= .tuple #[.agg (dv noD).toArray, .bool false]) (results_row_tmp (fn:=Tryz.f26) (p:=2) (u:=3) rfl _ _ w.heap.size _ (dv noD).toArray _ _ rfl R6.out Tryz.underlying27 rfl (dv_sizeA noD_len)) rfl ⟨rfl, ?_⟩
   exact Lib.hid (own_row P3.out.below K6.out)
  | some g=>
   simp only [Option.getD_some,Option.isSome_some]
   cases R3 with
   | none=>
    have hx:X=none:=HN3.out m g rfl rfl rfl
    subst hx
    simp only [Option.getD_none,Option.isSome_none]
    generalize sb m=s1
    generalize sb g=s2
    go_wp2_with (first
     | ((with_reducible refine build_all ?_ 27 #[] ?_ (dv noD).toArray ?_ ?_);rfl;rfl;go_must (refine Eq.trans ?_ built_none;kernel_rfl))
     | ((with_reducible refine store_all ?_ 27 (.tmp 2) (.tmp 46) ?_ w.heap.size (dv noD) ?_ ?_ (dv noD) ?_ ?_ ?_ ?_ ?_);rfl;rfl;go_must (rfl;rfl;rfl;exact P3.out.res;exact dv_size noD_len;exact dv_all _;intro w6 R6 K6 E6)))
    refine bodyPost_ret (v:= .tuple #[.agg (dv noD).toArray, .bool false]) (results_row_tmp (fn:=Tryz.f26) (p:=2) (u:=3) rfl _ _ w.heap.size _ (dv noD).toArray _ _ rfl R6.out Tryz.underlying27 rfl (dv_sizeA noD_len)) rfl ⟨rfl, ?_⟩
    exact Lib.hid (own_row P3.out.below K6.out)
   | some s=>
    simp only [Option.getD_some,Option.isSome_some]
    have hof:=HOF.out m g s rfl rfl rfl
    have hsl:=HSH.out s rfl
    obtain ⟨v,r,hv⟩:=HPO.out m rfl
    obtain ⟨b,o,hA,_,_⟩:=HAA.out (by rw [←hlen,hv,List.length_cons];omega)
    have hcell:=(hv▸hA▸HVA.out w3 P3.out.below:ValsAt w3 (some ⟨b,o,none⟩) n c (v::r)).head.2.2.2
    have hcnt:countOf L=v.count:=by rw [hv];rfl
    rw [hcnt]at hof
    have hn0:(0:Int) < (n:Int):=by rw [←hlen,hv,List.length_cons];omega
    have HX:=Lib.hid hof
    subst hA
    clear hof HN1 HN2 HN3 HOF HSH HPO HAA HVA hcnt hlen hv
    by_cases h3:v.count=3
    ·have hz:(v.count !=3)=false:=by rw [h3];rfl
     have HXX:Hid (X=(Dg.parse g).bind fun x=> (intF s).bind fun n=> if sizeOk n=true then some ⟨m,x,n⟩ else none):=Lib.hid (by rw [HX.out,if_pos h3])
     clear HX h3
     generalize v.count=vc at*
     go_wp2_with fail
     have HDP:=parse_any g w3
     change Calls _ _ #[.string (sb g)] _ _ at HDP
     have hdl:=Dg.orZero_length g
     generalize Dg.parse g=Y at HDP HXX hdl
     refine HDP.mono ?_
     rintro e w4 ⟨rfl,K4⟩
     have P4:=Lib.hid (P3.out.next K4)
     have E4:=Lib.hid (HEE.out.below P4.out.below)
     clear P3 K4 HDP
     obtain ⟨G,hG⟩:∃G,G=Dg.orZero Y:=⟨_,rfl⟩
     rw [←hG]at hdl ⊢
     have HG:=Lib.hid hG
     have HDL:=Lib.hid hdl
     clear hdl hG
     go_upto_region 7 with ((with_reducible refine store_all ?_ 25 (.tmp 10) (.tmp 50) ?_ w4.heap.size (G.map v8) ?_ ?_ (List.replicate 32 (v8 0)) ?_ ?_ ?_ ?_ ?_);rfl;rfl;go_must (rfl;rfl;(rw [List.length_replicate,List.length_map,HDL.out]);exact Row.at_ _ _ _ rfl rfl;(rw [List.length_map,HDL.out];kernel_rfl);exact oneCell_map v8 (fun _=> rfl) G;intro w5 R5 K5 S5))
     have KB5:=Lib.hid (show Below w4.heap.size w4 w5 from (kept_stored K5.out).below (Nat.le_refl _) (fun _ _ h=> h))
     have P5:=Lib.hid (P4.out.next KB5.out)
     have E5:=Lib.hid (E4.out.below KB5.out)
     have hg4:w.heap.size < w4.heap.size:=P4.out.res.lt
     clear P4 E4 K5 S5 KB5
     generalize w4.heap.size=q at R5 hg4 ⊢
     go_wp2_with fail
     refine (jt_int w5 s hsl E5.out.js.err).mono ?_
     rintro e w6 ⟨rfl,K6⟩
     have P6:=Lib.hid (P5.out.next K6)
     have R6:=Lib.hid (show Row w6 q 25 (G.map v8)from R5.out.below K6 R5.out.lt)
     clear P5 E5 K6 R5
     have hir:∀y,intF s=some y→ -9223372036854775808≤y∧y≤9223372036854775807:=fun y h=> (text_int h).2.2
     generalize intF s=I at HXX hir ⊢
     cases Y with
     | none=>
      have hx:X=none:=HXX.out
      subst hx
      simp only [Option.isSome_none]
      obtain ⟨z,bz,hIV⟩:∃z bz,intV I= .tuple #[.int .i64 z, .bool bz]:=by cases I <;> exact ⟨_,_,rfl⟩
      rw [hIV]
      clear hIV
      generalize sb m=s1
      generalize sb g=s2
      generalize sb s=s3
      go_wp2_with (first
       | ((with_reducible refine build_all ?_ 27 #[] ?_ (dv noD).toArray ?_ ?_);rfl;rfl;go_must (refine Eq.trans ?_ built_none;kernel_rfl))
       | ((with_reducible refine store_all ?_ 27 (.tmp 2) (.tmp 68) ?_ w.heap.size (dv noD) ?_ ?_ (dv noD) ?_ ?_ ?_ ?_ ?_);rfl;rfl;go_must (rfl;rfl;rfl;exact P6.out.res;exact dv_size noD_len;exact dv_all _;intro w7 R7 K7 E7)))
      refine bodyPost_ret (v:= .tuple #[.agg (dv noD).toArray, .bool false]) (results_row_tmp (fn:=Tryz.f26) (p:=2) (u:=3) rfl _ _ w.heap.size _ (dv noD).toArray _ _ rfl R7.out Tryz.underlying27 rfl (dv_sizeA noD_len)) rfl ⟨rfl, ?_⟩
      exact Lib.hid (own_row P6.out.below K7.out)
     | some x=>
      have hGx:G=x:=HG.out
      cases I with
      | none=>
       have hx:X=none:=HXX.out
       subst hx
       simp only [Option.isSome_some]
       generalize sb m=s1
       generalize sb g=s2
       generalize sb s=s3
       unfold intV
       go_wp2_with (first
        | ((with_reducible refine build_all ?_ 27 #[] ?_ (dv noD).toArray ?_ ?_);rfl;rfl;go_must (refine Eq.trans ?_ built_none;kernel_rfl))
        | ((with_reducible refine store_all ?_ 27 (.tmp 2) (.tmp 68) ?_ w.heap.size (dv noD) ?_ ?_ (dv noD) ?_ ?_ ?_ ?_ ?_);rfl;rfl;go_must (rfl;rfl;rfl;exact P6.out.res;exact dv_size noD_len;exact dv_all _;intro w7 R7 K7 E7)))
       refine bodyPost_ret (v:= .tuple #[.agg (dv noD).toArray, .bool false]) (results_row_tmp (fn:=Tryz.f26) (p:=2) (u:=3) rfl _ _ w.heap.size _ (dv noD).toArray _ _ rfl R7.out Tryz.underlying27 rfl (dv_sizeA noD_len)) rfl ⟨rfl, ?_⟩
       exact Lib.hid (own_row P6.out.below K7.out)
      | some y=>
       simp only [Option.isSome_some]
       obtain ⟨hy0,hy1⟩:=hir y rfl
       have HXY:Hid (X=if sizeOk y=true then some ⟨m,x,y⟩ else none):=Lib.hid HXX.out
       clear HXX
       generalize sb g=s2
       generalize sb s=s3
       unfold intV
       generalize hs1:sb m=s1
       have HS1:=Lib.hid hs1
       clear hs1
       go_wp2_with fail
       refine (mt_isSize w6 y hy0 hy1).mono ?_
       rintro e w7 ⟨rfl,rfl⟩
       generalize sizeOk y=so at HXY ⊢
       cases so with
       | false=>
        have hx:X=none:=HXY.out
        subst hx
        go_wp2_with (first
         | ((with_reducible refine build_all ?_ 27 #[] ?_ (dv noD).toArray ?_ ?_);rfl;rfl;go_must (refine Eq.trans ?_ built_none;kernel_rfl))
         | ((with_reducible refine store_all ?_ 27 (.tmp 2) (.tmp 68) ?_ w.heap.size (dv noD) ?_ ?_ (dv noD) ?_ ?_ ?_ ?_ ?_);rfl;rfl;go_must (rfl;rfl;rfl;exact P6.out.res;exact dv_size noD_len;exact dv_all _;intro w8 R8 K8 E8)))
        refine bodyPost_ret (v:= .tuple #[.agg (dv noD).toArray, .bool false]) (results_row_tmp (fn:=Tryz.f26) (p:=2) (u:=3) rfl _ _ w.heap.size _ (dv noD).toArray _ _ rfl R8.out Tryz.underlying27 rfl (dv_sizeA noD_len)) rfl ⟨rfl, ?_⟩
        exact Lib.hid (own_row P6.out.below K8.out)
       | true=>
        have hx:X=some ⟨m,x,y⟩:=HXY.out
        subst hx
        have hxl:x.length=32:=by rw [←hGx];exact HDL.out
        have HB:Hid (Tryz.prog.built 27 [(0, .string s1),(1, .agg (G.map v8).toArray),(2, .int .i64 y)]=some (dv ⟨m,x,y⟩).toArray):=Lib.hid (by rw [←HS1.out,hGx];exact built_desc m y x hxl)
        have HGL:Hid ((G.map v8).length=32):=Lib.hid (by rw [List.length_map];exact HDL.out)
        have hDX:=dv_len (d:=⟨m,x,y⟩) hxl
        have HDX:=Lib.hid hDX
        have HDS:=Lib.hid (dv_all ⟨m,x,y⟩)
        clear hDX
        generalize hGM:G.map v8=GM at*
        generalize hDM:dv ⟨m,x,y⟩=DM at*
        have HDM:=Lib.hid hDM
        clear hGM hDM
        go_wp2_with (first
         | ((with_reducible refine load_all ?_ 25 (.tmp 10) ?_ q 0 GM GM.toArray ?_ _ ?_ Tryz.underlying25 ?_ ?_ ?_ ?_);rfl;rfl;go_must (rfl;exact rangeAt_row R6.out;rfl;(rw [HGL.out];kernel_rfl);rfl))
         | ((with_reducible refine build_all ?_ 27 #[(0, .tmp 69),(1, .tmp 70),(2, .tmp 71)] ?_ DM.toArray ?_ ?_);rfl;rfl;go_must (refine Eq.trans ?_ HB.out;kernel_rfl))
         | ((with_reducible refine store_all ?_ 27 (.tmp 2) (.tmp 72) ?_ w.heap.size DM ?_ ?_ (dv noD) ?_ ?_ ?_ ?_ ?_);rfl;rfl;go_must (rfl;rfl;(rw [HDX.out];rfl);exact P6.out.res;(rw [HDX.out];exact mt_sizeD);exact HDS.out;intro w8 R8 K8 E8)))
        refine bodyPost_ret (v:= .tuple #[.agg DM.toArray, .bool true]) (results_row_tmp (fn:=Tryz.f26) (p:=2) (u:=3) rfl _ _ w.heap.size _ DM.toArray _ _ rfl R8.out Tryz.underlying27 rfl (by rw [List.size_toArray,HDX.out];exact mt_sizeD)) rfl ⟨by rw [←HDM.out];rfl, ?_⟩
        exact Lib.hid (own_row P6.out.below K8.out)
    ·have hz:(v.count !=3)=true:=by rw [bne_iff_ne];exact h3
     have hx:X=none:=by rw [HX.out,if_neg h3]
     subst hx
     clear HX h3
     generalize v.count=vc at*
     generalize sb m=s1
     generalize sb g=s2
     generalize sb s=s3
     go_wp2_with (first
      | ((with_reducible refine build_all ?_ 27 #[] ?_ (dv noD).toArray ?_ ?_);rfl;rfl;go_must (refine Eq.trans ?_ built_none;kernel_rfl))
      | ((with_reducible refine store_all ?_ 27 (.tmp 2) (.tmp 46) ?_ w.heap.size (dv noD) ?_ ?_ (dv noD) ?_ ?_ ?_ ?_ ?_);rfl;rfl;go_must (rfl;rfl;rfl;exact P3.out.res;exact dv_size noD_len;exact dv_all _;intro w6 R6 K6 E6)))
     refine bodyPost_ret (v:= .tuple #[.agg (dv noD).toArray, .bool false]) (results_row_tmp (fn:=Tryz.f26) (p:=2) (u:=3) rfl _ _ w.heap.size _ (dv noD).toArray _ _ rfl R6.out Tryz.underlying27 rfl (dv_sizeA noD_len)) rfl ⟨rfl, ?_⟩
     exact Lib.hid (own_row P3.out.below K6.out)
end Go.Proofs.YtmkjcleecjjchaaGreatDoor
namespace Go.Proofs.YtmkjcleecjjchaaGreatDoor
open Go.RowKit Sh Jt Js Jo
namespace Jo
theorem all_snoc:∀ {P:List (List V)} {ds:List Desc} {p:List V} {d:Desc},allD P=some ds→descF p=some d→allD (P++[p])=some (ds++[d])
 | [],ds,p,d,h,hd=> by
  obtain rfl:=Option.some.inj h
  show (descF p).bind _=_
  rw [hd]
  rfl
 | q::P,ds,p,d,h,hd=> by
  rw [allD]at h
  obtain ⟨x,hx,h⟩:=Option.bind_eq_some_iff.1 h
  obtain ⟨r,hr,h⟩:=Option.bind_eq_some_iff.1 h
  obtain rfl:=Option.some.inj h
  rw [List.cons_append,allD,hx,all_snoc hr hd]
  rfl
theorem all_none:∀ {P:List (List V)} {p:List V},p∈P→descF p=none→allD P=none
 | q::P,p,hm,hd=> by
  rw [allD]
  rcases List.mem_cons.1 hm with rfl | hm
  ·rw [hd]
   rfl
  ·rw [all_none hm hd]
   cases descF q <;> rfl
theorem offs_succ:∀ {P:List (List V)} {j:Nat} (hj:j < P.length),offs P (j+1)=offs P j+P[j].length
 | p::P,0,_=> by rw [offs_cons,offs_zero,offs_zero];simp
 | p::P,j+1,hj=> by
  rw [offs_cons,offs_cons,offs_succ (P:=P) (j:=j) (by simpa using hj)]
  simp only [List.getElem_cons_succ]
  omega
theorem offs_all (P:List (List V)):offs P P.length=P.flatten.length:=by unfold offs;rw [List.take_length]
structure LstIs (L:List V) (P:List (List V)):Prop where
 eq:∃v,v.kind=5∧L=v::P.flatten
 ends:Ends P
 parts:partsL L=P
 len:L.length≤5000
theorem lst_is {v:V} {r:List V} (hr:rightPF (v::r)=true) (h5:v.kind=5):∃P,LstIs (v::r) P:=by
 obtain ⟨u,P,e,he,hn,_,⟨ks,_,hp,_⟩,hl⟩:=right_whole hr
 obtain ⟨rfl,rfl⟩:=List.cons.inj e
 refine ⟨P,⟨v,h5,rfl⟩,he, ?_,hl⟩
 have hq:=parts_prog hp []
 rw [List.append_nil,←hp.len]at hq
 unfold partsL
 show partsP v.count.toNat P.flatten=P
 rw [←hn,Int.toNat_natCast]
 exact hq
theorem LstIs.at_ {L:List V} {P:List (List V)} (h:LstIs L P) {j:Nat} (hj:j < P.length):1+offs P j < L.length∧endN L (1+offs P j)=((1+offs P (j+1):Nat):Int)∧(L.drop (1+offs P j)).take P[j].length=P[j]∧1+offs P (j+1)≤L.length∧offs P (j+1)=offs P j+P[j].length∧0 < P[j].length:=by
 obtain ⟨v,_,e⟩:=h.eq
 have hd:L.drop 1=P.flatten++[]:=by rw [e,List.append_nil];rfl
 obtain ⟨y,hy⟩:=part_drop P L [] 1 hd j hj
 have he:=h.ends _ (List.getElem_mem hj)
 obtain ⟨_,_,r3⟩:=row_part hy he
 have h0:=h.ends.pos (List.getElem_mem hj)
 have hs:=offs_succ hj
 have hlen:=congrArg List.length hy
 rw [List.length_drop,List.length_append]at hlen
 have hlt:1+offs P j < L.length:=by omega
 refine ⟨hlt, ?_,by rw [hy,List.take_left],by omega,hs,h0⟩
 unfold endN
 rw [if_pos hlt,r3,hs]
 show ((1+offs P j:Nat):Int)+(P[j].length:Nat)=_
 omega
theorem LstIs.all {L:List V} {P:List (List V)} (h:LstIs L P):1+offs P P.length=L.length:=by
 obtain ⟨v,_,e⟩:=h.eq
 rw [offs_all,e,List.length_cons]
 omega
theorem ends_few:∀ {P:List (List V)},Ends P→P.length≤P.flatten.length
 | [],_=> Nat.le_refl _
 | p::P,h=> by
  have:=h.pos (p:=p) List.mem_cons_self
  have:=ends_few h.tail
  rw [List.flatten_cons,List.length_append,List.length_cons]
  omega
theorem LstIs.few {L:List V} {P:List (List V)} (h:LstIs L P):P.length≤5000:=by
 have h1:=h.all
 have h2:=h.len
 have h3:=ends_few h.ends
 rw [offs_all]at h1
 omega
theorem LstIs.descs {L:List V} {P:List (List V)} (h:LstIs L P):descsF L=allD P:=by
 obtain ⟨v,h5,e⟩:=h.eq
 unfold descsF
 rw [h.parts,e]
 exact if_pos h5
theorem descs_not {v:V} {r:List V} (h:v.kind≠5):descsF (v::r)=none:=if_neg h
end Jo
theorem below_own {w wr w':World} {S:Nat→Prop} (h:Below w.heap.size w wr) (k:Kept wr w' (fun k=> w.heap.size≤k∧S k)):Below w.heap.size w w':=
 h.trans (⟨k.os,k.tape,k.output,k.size,fun i hi=> k.block i (Nat.lt_of_lt_of_le hi h.size) (fun e=> by omega)⟩)
theorem desc_row1 (w:World) {d:Desc} (h:d.dig.length=32) {C:Array Value} (hC:C=(dv d).toArray):DescsAt (w.alloc (.cells C 27)) (some ⟨w.heap.size,0,none⟩) 1 1 [d]:=by
 subst hC
 refine ⟨rfl,Nat.le_refl _,fun x hx=> by rw [List.mem_singleton.1 hx];exact h,fun _=> ⟨w.heap.size,0,rfl,by simp,fun j u hj=> ?_⟩⟩
 have e:cellsD [d]=dv d:=by
  show dv d++[]=dv d
  rw [List.append_nil]
 rw [e]at hj
 rw [cell_of_row _ _ _ _ _ _ (heap_alloc_new w _),Nat.zero_add]
 simpa using hj
set_option maxRecDepth 100000 in
set_option maxHeartbeats 8000000 in
theorem mt_readDescs (w:World) (A:Option Addr) (n c:Nat) (L:List V) (hL:ValsAt w A n c L) (hn:n≤250000) (hs:Short 1000000000 L) (hE:MEnv w) (hr:L=[]∨rightPF L=true):
  Calls Tryz.prog 27 #[.slice A n c] w fun e w'=> ∃val,e= .returned (.tuple #[val, .bool (descsF L).isSome])∧Hid (OwnDescs w' w.heap.size val ((descsF L).getD [])∧Below w.heap.size w w'):=by
 have hlen:=hL.len
 obtain ⟨X,hX⟩:∃X,X=descsF L:=⟨_,rfl⟩
 rw [←hX]
 rcases hr with rfl | hr
 ·obtain rfl:n=0:=hlen.symm
  have hx:X=none:=hX
  subst hx
  clear hL hX hs hE
  go_enter Tryz.func27,Tryz.ntmps27
  go_wp2_with fail
  go_ret2
  exact ⟨_,rfl,Lib.hid ⟨OwnDescs.nil _ _,Below.refl _ _⟩⟩
 ·obtain ⟨v,r,rfl⟩:∃v r,L=v::r:=by
   match L,(right_end hr).2.1 with
   | v::r,_=> exact ⟨v,r,rfl⟩
  have hpos:0 < n:=by rw [←hlen,List.length_cons];omega
  have hn0:(0:Int) < (n:Int):=by omega
  have hnb:((n:Int)==0)=false:=beq_eq_false_iff_ne.2 (by omega)
  obtain ⟨b,o,rfl,hb,_⟩:=hL.at_ hpos
  have hc0:=hL.head.1
  by_cases h5:v.kind=5
  ·obtain ⟨P,hP⟩:=lst_is hr h5
   rw [hP.descs]at hX
   have hz:(v.kind !=5)=false:=by rw [h5];rfl
   have HX:=Lib.hid hX
   have HP:=Lib.hid hP
   have HS:=Lib.hid hs
   have HE:=Lib.hid hE
   have HL:=Lib.hid (fun W (q:Below w.heap.size w W)=> hL.below q)
   have hcap:=hL.cap
   have hall:=hP.all
   have hfew:=hP.few
   rw [hlen]at hall
   generalize v::r=L at*
   generalize v.kind=vk at*
   clear hX hP hs hE hL hr h5
   go_enter Tryz.func27,Tryz.ntmps27
   go_upto_region 5 with fail
   go_loopg [4,5] P.length (fun g v4 v5 wx=> ∃(j:Nat) (ds:List Desc),v5= .int .i64 ((1+offs P j:Nat):Int)∧j+g=P.length∧Hid (allD (P.take j)=some ds)∧Hid (ds.length=j)∧Hid (OwnDescs wx w.heap.size v4 ds∧Below w.heap.size w wx))
   case atStart=> exact ⟨0,[],rfl,by omega,Lib.hid rfl,Lib.hid rfl,Lib.hid ⟨OwnDescs.nil _ _,Below.refl _ _⟩⟩
   case round=>
    obtain ⟨j,ds,rfl,hjg,HA,HDL,HH⟩:=hrel
    cases gk with
    | zero=>
     obtain rfl:j=P.length:=by omega
     rw [hall]
     rw [List.take_length]at HA
     have hx:X=some ds:=by rw [HX.out,HA.out]
     subst hx
     have hge:¬(n:Int) < (n:Int):=by omega
     clear hc0
     go_wp2_with fail
     go_ret2
     exact ⟨_,rfl,HH⟩
    | succ g=>
     have hj:j < P.length:=by omega
     obtain ⟨q1,q2,q3,q4,q5,q6⟩:=HP.out.at_ hj
     have HLW:=Lib.hid (HL.out wr HH.out.2)
     have HSP:=Lib.hid (show Short 1000000000 P[j]from fun x hx=> HS.out x (by rw [←q3]at hx;exact List.mem_of_mem_drop (List.mem_of_mem_take hx)))
     have HNX:=Lib.hid (show P.take (j+1)=P.take j++[P[j]]from List.take_succ_eq_append_getElem hj)
     have HNO:=Lib.hid (show descF P[j]=none→X=none from fun h=> by rw [HX.out];exact all_none (List.getElem_mem hj) h)
     rw [hlen]at q1 q4
     have hsub:=HLW.out.sub (i:=1+offs P j) (k:=P[j].length) (by omega)
     rw [q3]at hsub
     have HSB:=Lib.hid hsub
     have HEND:=Lib.hid (js_end wr (some ⟨b,o,none⟩) n c L HLW.out hn (1+offs P j) (by omega))
     rw [q2]at HEND
     obtain ⟨x,hx⟩:∃x,x=1+offs P j:=⟨_,rfl⟩
     obtain ⟨y,hy⟩:∃y,y=1+offs P (j+1):=⟨_,rfl⟩
     obtain ⟨k,hk⟩:∃k,k=P[j].length:=⟨_,rfl⟩
     rw [←hx]at HEND HSB q1 ⊢
     rw [←hy]at HEND q4
     rw [←hk]at HSB q6
     have hxy:y=x+k:=by omega
     have HY:=Lib.hid hy
     clear hsub q2 q3 q5 hx hy hk hc0
     generalize P[j]=p at*
     subst hxy
     have hxn:(x:Int) < (n:Int):=by omega
     have s1:(x:Int)≤(x:Int)+(k:Int):=by omega
     have s2:(x:Int)+(k:Int)≤(n:Int):=by omega
     have s3:(x:Int)+(k:Int)≤(c:Int):=by omega
     go_wp2_with fail
     refine HEND.out.mono ?_
     rintro e w2 ⟨rfl,HB2⟩
     clear HEND
     have HB2':=Lib.hid (HH.out.2.trans (HB2.out.mono HH.out.2.size))
     have HO2:=Lib.hid (HH.out.1.below HB2.out)
     have HSB2:=Lib.hid (HSB.out.below HB2.out)
     clear HH HB2 HSB HLW
     have HRD:=Lib.hid (mt_readDesc w2 (some ⟨b,o+x*4,none⟩) k (c - x) p HSB2.out (by omega) HSP.out (HE.out.below HB2'.out))
     go_wp2_with fail
     refine HRD.out.mono ?_
     rintro e w3 ⟨rfl,HB3⟩
     clear HRD HSB2
     have HB3':=Lib.hid (HB2'.out.trans (HB3.out.mono HB2'.out.size))
     have HO3:=Lib.hid (HO2.out.below HB3.out)
     clear HB2' HO2 HB3
     have hod:(orD (descF p)).dig.length=32:=by
      cases hd:descF p with
      | none=> rfl
      | some d=> exact (desc_inv hd).2.1
     obtain ⟨d,hd⟩:∃d,d=orD (descF p):=⟨_,rfl⟩
     rw [←hd]at hod ⊢
     have HDV:=Lib.hid hod
     have HD:=Lib.hid hd
     clear hod hd
     go_upto_region 8 with ((with_reducible refine store_all ?_ 27 (.tmp 7) (.tmp 32) ?_ w3.heap.size (dv d) ?_ ?_ (dv noD) ?_ ?_ ?_ ?_ ?_);rfl;rfl;go_must (rfl;rfl;(rw [dv_len HDV.out];rfl);exact Row.at_ _ _ _ rfl rfl;exact dv_size HDV.out;exact dv_all _;intro w4 R4 K4 E4))
     have KB4:=Lib.hid (show Below w3.heap.size w3 w4 from (kept_stored K4.out).below (Nat.le_refl _) (fun _ _ h=> h))
     have HB4:=Lib.hid (HB3'.out.trans (KB4.out.mono HB3'.out.size))
     have HO4:=Lib.hid (HO3.out.below KB4.out)
     have HZ4:=Lib.hid HB3'.out.size
     clear HB3' HO3 KB4 K4 E4
     generalize w3.heap.size=q at R4 HZ4 ⊢
     cases hF:descF p with
     | none=>
      have hx:X=none:=HNO.out hF
      subst hx
      simp only [Option.isSome_none]
      clear hF
      go_wp2_with fail
      go_ret2
      exact ⟨_,rfl,Lib.hid ⟨OwnDescs.nil _ _,HB4.out⟩⟩
     | some d2=>
      have hd2:d=d2:=by rw [HD.out,hF];rfl
      subst hd2
      simp only [Option.isSome_some]
      have HA2:Hid (allD (P.take (j+1))=some (ds++[d])):=Lib.hid (by rw [HNX.out];exact all_snoc HA.out hF)
      clear hF HNO HA HNX HD
      go_wp2_with (first
       | ((with_reducible refine load_all ?_ 27 (.tmp 7) ?_ q 0 (dv d) (dv d).toArray ?_ _ ?_ Tryz.underlying27 ?_ ?_ ?_ ?_);rfl;rfl;go_must (rfl;exact rangeAt_row R4.out;rfl;exact dv_size HDV.out;rfl))
       | (with_reducible refine build_desc1 rfl _ rfl d (dv d).toArray rfl HDV.out rfl ?_)
       | (at_builtin;go_must (with_reducible refine append_descs rfl _ _ rfl w.heap.size u4 ds rfl (HO4.out.below (below_alloc _ _)) ⟨w4.heap.size,0,none⟩ 1 1 [d] rfl (desc_row1 w4 HDV.out rfl) (by rw [HDL.out];omega) (Nat.le_trans HB4.out.size (below_alloc _ _).size) ?_;intro v5 w5 h1 h2 h3)))
      go_roundg g
      case measure=> omega
      case rel=> exact ⟨j+1,ds++[d],by rw [←HY.out];go_num,by omega,HA2,Lib.hid (by rw [List.length_append,HDL.out];rfl),Lib.hid ⟨h1.out,below_own (HB4.out.trans ((below_alloc _ _).mono HB4.out.size)) h2.out⟩⟩
  ·have hz:(v.kind !=5)=true:=by rw [bne_iff_ne];exact h5
   have hx:X=none:=by rw [hX];exact descs_not h5
   subst hx
   generalize v.kind=vk at*
   clear hL hX hs hE hr
   go_enter Tryz.func27,Tryz.ntmps27
   go_wp2_with fail
   go_ret2
   exact ⟨_,rfl,Lib.hid ⟨OwnDescs.nil _ _,Below.refl _ _⟩⟩
end Go.Proofs.YtmkjcleecjjchaaGreatDoor
