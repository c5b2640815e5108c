import Derived.Test.YtmkjcleecjjchaaGreatDoorP24
import Derived.Test.YtmkjcleecjjchaaGreatDoorP29
import Derived.Test.YtmkjcleecjjchaaGreatDoorP33
import Derived.Test.YtmkjcleecjjchaaGreatDoorP39
namespace Go.Proofs.YtmkjcleecjjchaaGreatDoor
open Go.RowKit Sh Jt Js Jo
set_option maxRecDepth 100000
def actR (t0 t1 t2 t3 t4 t5 t6 t7 t8 t9 t10 t11 t12 t13 t14 t15:Value):Act:= {tmps:=#[t0,t1,t2,t3,t4,t5,t6,t7,t8,t9,t10,t11,t12,t13,t14,t15],defers:=[]}
def oR0:Oper:= {dst:=some 3,op:= .buildSlice 50 3 #[(0, .const (.string ⟨#[109,101,100,105,97,84,121,112,101]⟩)),(1, .const (.string ⟨#[100,105,103,101,115,116]⟩)),(2, .const (.string ⟨#[115,105,122,101]⟩))],type:=50,pos:= "ref.go:63",after:=#[],guard:=none}
def oR1:Oper:= {dst:=some 4,op:= .fieldAddr 27 (.tmp 1) 0,type:=0,pos:= "ref.go:63",after:=#[],guard:=none}
def oR2:Oper:= {dst:=some 5,op:= .load 9 (.tmp 4),type:=9,pos:= "ref.go:63",after:=#[{on:=1,ground:=Ground.data}],guard:=none}
def oR3:Oper:= {dst:=some 6,op:= .call {callee:= .value (.func 113),args:=#[.tmp 5],argTypes:=#[9]},type:=29,pos:= "ref.go:63",after:=#[{on:=2,ground:=Ground.data}],guard:=none}
def oR4:Oper:= {dst:=some 7,op:= .fieldAddr 27 (.tmp 1) 1,type:=0,pos:= "ref.go:63",after:=#[],guard:=none}
def oR5:Oper:= {dst:=some 8,op:= .load 25 (.tmp 7),type:=25,pos:= "ref.go:63",after:=#[{on:=4,ground:=Ground.data}],guard:=none}
def oR6:Oper:= {dst:=some 9,op:= .call {callee:= .value (.func 114),args:=#[.tmp 8],argTypes:=#[25]},type:=9,pos:= "ref.go:63",after:=#[{on:=5,ground:=Ground.data},{on:=3,ground:=Ground.chain}],guard:=none}
def oR7:Oper:= {dst:=some 10,op:= .call {callee:= .value (.func 113),args:=#[.tmp 9],argTypes:=#[9]},type:=29,pos:= "ref.go:63",after:=#[{on:=6,ground:=Ground.data},{on:=6,ground:=Ground.chain}],guard:=none}
def oR8:Oper:= {dst:=some 11,op:= .fieldAddr 27 (.tmp 1) 2,type:=0,pos:= "ref.go:63",after:=#[],guard:=none}
def oR9:Oper:= {dst:=some 12,op:= .load 3 (.tmp 11),type:=3,pos:= "ref.go:63",after:=#[{on:=8,ground:=Ground.data}],guard:=none}
def oR10:Oper:= {dst:=some 13,op:= .call {callee:= .value (.func 115),args:=#[.tmp 12],argTypes:=#[3]},type:=29,pos:= "ref.go:63",after:=#[{on:=9,ground:=Ground.data},{on:=7,ground:=Ground.chain}],guard:=none}
def oR11:Oper:= {dst:=some 14,op:= .buildSlice 74 3 #[(0, .tmp 6),(1, .tmp 10),(2, .tmp 13)],type:=74,pos:= "ref.go:63",after:=#[{on:=3,ground:=Ground.data},{on:=7,ground:=Ground.data},{on:=10,ground:=Ground.data}],guard:=none}
def oR12:Oper:= {dst:=some 15,op:= .call {callee:= .value (.func 112),args:=#[.tmp 3, .tmp 14],argTypes:=#[50,74]},type:=29,pos:= "ref.go:63",after:=#[{on:=0,ground:=Ground.data},{on:=11,ground:=Ground.data},{on:=10,ground:=Ground.chain}],guard:=none}
def oR13:Oper:= {dst:=some 2,op:= .assign (.tmp 15),type:=29,pos:= "ref.go:63",after:=#[{on:=12,ground:=Ground.data},{on:=12,ground:=Ground.chain},{on:=0,ground:=Ground.phase},{on:=1,ground:=Ground.phase},{on:=2,ground:=Ground.phase},{on:=3,ground:=Ground.phase},{on:=4,ground:=Ground.phase},{on:=5,ground:=Ground.phase},{on:=6,ground:=Ground.phase},{on:=7,ground:=Ground.phase},{on:=8,ground:=Ground.phase},{on:=9,ground:=Ground.phase},{on:=10,ground:=Ground.phase},{on:=11,ground:=Ground.phase},{on:=12,ground:=Ground.phase}],guard:=none}
def opsR:Array Oper:=#[oR0,oR1,oR2,oR3,oR4,oR5,oR6,oR7,oR8,oR9,oR10,oR11,oR12,oR13]
def Jo.rowX (d:Desc):List V:=objA [mediaK,digK,sizeK] [[⟨4,[],fixF d.media,0⟩],[⟨4,[],fixF (Dg.text d.dig),0⟩],[⟨3,[],textF d.size,0⟩]]
structure FactsR (w1 W:World) (bx:Nat) (d:Desc) (c0 c1 c2 c3 c4 c5 c6 c7 c8 c9 c10 c11 c12 c13:Bool) (t3 t4 t5 t6 t7 t8 t9 t10 t11 t12 t13 t14 t15 t2:Value):Prop where
 below:Below w1.heap.size w1 W
 f0:c0=true→∃A,t3= .slice A 3 3∧StrsAt W A 3 3 [mediaK,digK,sizeK]
 f1:c1=true→t4= .pointer (some ⟨bx,0,none⟩)
 f2:c2=true→t5= .string (sb d.media)
 f3:c3=true→∃g k,t6= .slice (some ⟨g,0,none⟩) 1 k∧ValsAt W (some ⟨g,0,none⟩) 1 k [⟨4,[],fixF d.media,0⟩]
 f4:c4=true→t7= .pointer (some ⟨bx,1,none⟩)
 f5:c5=true→t8= .agg (d.dig.map v8).toArray
 f6:c6=true→t9= .string (sb (Dg.text d.dig))
 f7:c7=true→∃g k,t10= .slice (some ⟨g,0,none⟩) 1 k∧ValsAt W (some ⟨g,0,none⟩) 1 k [⟨4,[],fixF (Dg.text d.dig),0⟩]
 f8:c8=true→t11= .pointer (some ⟨bx,33,none⟩)
 f9:c9=true→t12= .int .i64 d.size
 f10:c10=true→∃g k,t13= .slice (some ⟨g,0,none⟩) 1 k∧ValsAt W (some ⟨g,0,none⟩) 1 k [⟨3,[],textF d.size,0⟩]
 f11:c11=true→∃A p q r,t14= .slice A 3 3∧SlsAt W A 3 3 [p,q,r]∧p.row=[⟨4,[],fixF d.media,0⟩]∧q.row=[⟨4,[],fixF (Dg.text d.dig),0⟩]∧r.row=[⟨3,[],textF d.size,0⟩]
 f12:c12=true→OwnVals W w1.heap.size t15 (rowX d)
 f13:c13=true→OwnVals W w1.heap.size t2 (rowX d)
def InvR (w1:World) (bx:Nat) (d:Desc) (t0:Value) (listed:Array Bool) (a:Act) (W:World):Prop:=
 ∃(c0 c1 c2 c3 c4 c5 c6 c7 c8 c9 c10 c11 c12 c13:Bool) (t3 t4 t5 t6 t7 t8 t9 t10 t11 t12 t13 t14 t15 t2:Value),listed=#[c0,c1,c2,c3,c4,c5,c6,c7,c8,c9,c10,c11,c12,c13]∧a=actR t0 (.pointer (some ⟨bx,0,none⟩)) t2 t3 t4 t5 t6 t7 t8 t9 t10 t11 t12 t13 t14 t15∧FactsR w1 W bx d c0 c1 c2 c3 c4 c5 c6 c7 c8 c9 c10 c11 c12 c13 t3 t4 t5 t6 t7 t8 t9 t10 t11 t12 t13 t14 t15 t2
theorem FactsR.go {w1 W W':World} {bx:Nat} {d:Desc} {c0 c1 c2 c3 c4 c5 c6 c7 c8 c9 c10 c11 c12 c13:Bool} {t3 t4 t5 t6 t7 t8 t9 t10 t11 t12 t13 t14 t15 t2:Value} (F:FactsR w1 W bx d c0 c1 c2 c3 c4 c5 c6 c7 c8 c9 c10 c11 c12 c13 t3 t4 t5 t6 t7 t8 t9 t10 t11 t12 t13 t14 t15 t2) (k0:Below W.heap.size W W'):FactsR w1 W' bx d c0 c1 c2 c3 c4 c5 c6 c7 c8 c9 c10 c11 c12 c13 t3 t4 t5 t6 t7 t8 t9 t10 t11 t12 t13 t14 t15 t2:=
 ⟨F.below.trans (k0.mono F.below.size),fun h=> by obtain ⟨A,e,q⟩:=F.f0 h;exact ⟨A,e,q.below k0⟩,F.f1,F.f2,fun h=> by obtain ⟨g,k,e,q⟩:=F.f3 h;exact ⟨g,k,e,q.below k0⟩,F.f4,F.f5,F.f6,fun h=> by obtain ⟨g,k,e,q⟩:=F.f7 h;exact ⟨g,k,e,q.below k0⟩,F.f8,F.f9,fun h=> by obtain ⟨g,k,e,q⟩:=F.f10 h;exact ⟨g,k,e,q.below k0⟩,fun h=> by obtain ⟨A,p,q,r,e,s,x⟩:=F.f11 h;exact ⟨A,p,q,r,e,s.below k0,x⟩,fun h=> (F.f12 h).below k0,fun h=> (F.f13 h).below k0⟩
theorem readyR_lt {c0 c1 c2 c3 c4 c5 c6 c7 c8 c9 c10 c11 c12 c13:Bool} {i:Nat} (hi:i∈Region.ready .any opsR #[c0,c1,c2,c3,c4,c5,c6,c7,c8,c9,c10,c11,c12,c13]):i < 14:=by
 have h1:=(mem_ready.1 hi).1
 rcases Nat.lt_or_ge i 14 with h | h
 ·exact h
 ·rw [Array.getD_eq_getD_getElem?,Array.getElem?_eq_none (by simpa using h)]at h1
  cases h1
theorem readyR_0 {c0 c1 c2 c3 c4 c5 c6 c7 c8 c9 c10 c11 c12 c13:Bool} (hi:0∈Region.ready .any opsR #[c0,c1,c2,c3,c4,c5,c6,c7,c8,c9,c10,c11,c12,c13]):c0=false:=by
 obtain ⟨h1,o,ho,hd⟩:=mem_ready.1 hi
 obtain rfl:oR0=o:=Option.some.inj ho
 exact h1
theorem readyR_1 {c0 c1 c2 c3 c4 c5 c6 c7 c8 c9 c10 c11 c12 c13:Bool} (hi:1∈Region.ready .any opsR #[c0,c1,c2,c3,c4,c5,c6,c7,c8,c9,c10,c11,c12,c13]):c1=false:=by
 obtain ⟨h1,o,ho,hd⟩:=mem_ready.1 hi
 obtain rfl:oR1=o:=Option.some.inj ho
 exact h1
theorem readyR_2 {c0 c1 c2 c3 c4 c5 c6 c7 c8 c9 c10 c11 c12 c13:Bool} (hi:2∈Region.ready .any opsR #[c0,c1,c2,c3,c4,c5,c6,c7,c8,c9,c10,c11,c12,c13]):c2=false∧c1=true:=by
 obtain ⟨h1,o,ho,hd⟩:=mem_ready.1 hi
 obtain rfl:oR2=o:=Option.some.inj ho
 exact ⟨h1,hd ⟨1, .data⟩ (by simp [oR2]) rfl⟩
theorem readyR_3 {c0 c1 c2 c3 c4 c5 c6 c7 c8 c9 c10 c11 c12 c13:Bool} (hi:3∈Region.ready .any opsR #[c0,c1,c2,c3,c4,c5,c6,c7,c8,c9,c10,c11,c12,c13]):c3=false∧c2=true:=by
 obtain ⟨h1,o,ho,hd⟩:=mem_ready.1 hi
 obtain rfl:oR3=o:=Option.some.inj ho
 exact ⟨h1,hd ⟨2, .data⟩ (by simp [oR3]) rfl⟩
theorem readyR_4 {c0 c1 c2 c3 c4 c5 c6 c7 c8 c9 c10 c11 c12 c13:Bool} (hi:4∈Region.ready .any opsR #[c0,c1,c2,c3,c4,c5,c6,c7,c8,c9,c10,c11,c12,c13]):c4=false:=by
 obtain ⟨h1,o,ho,hd⟩:=mem_ready.1 hi
 obtain rfl:oR4=o:=Option.some.inj ho
 exact h1
theorem readyR_5 {c0 c1 c2 c3 c4 c5 c6 c7 c8 c9 c10 c11 c12 c13:Bool} (hi:5∈Region.ready .any opsR #[c0,c1,c2,c3,c4,c5,c6,c7,c8,c9,c10,c11,c12,c13]):c5=false∧c4=true:=by
 obtain ⟨h1,o,ho,hd⟩:=mem_ready.1 hi
 obtain rfl:oR5=o:=Option.some.inj ho
 exact ⟨h1,hd ⟨4, .data⟩ (by simp [oR5]) rfl⟩
theorem readyR_6 {c0 c1 c2 c3 c4 c5 c6 c7 c8 c9 c10 c11 c12 c13:Bool} (hi:6∈Region.ready .any opsR #[c0,c1,c2,c3,c4,c5,c6,c7,c8,c9,c10,c11,c12,c13]):c6=false∧c5=true:=by
 obtain ⟨h1,o,ho,hd⟩:=mem_ready.1 hi
 obtain rfl:oR6=o:=Option.some.inj ho
 exact ⟨h1,hd ⟨5, .data⟩ (by simp [oR6]) rfl⟩
theorem readyR_7 {c0 c1 c2 c3 c4 c5 c6 c7 c8 c9 c10 c11 c12 c13:Bool} (hi:7∈Region.ready .any opsR #[c0,c1,c2,c3,c4,c5,c6,c7,c8,c9,c10,c11,c12,c13]):c7=false∧c6=true:=by
 obtain ⟨h1,o,ho,hd⟩:=mem_ready.1 hi
 obtain rfl:oR7=o:=Option.some.inj ho
 exact ⟨h1,hd ⟨6, .data⟩ (by simp [oR7]) rfl⟩
theorem readyR_8 {c0 c1 c2 c3 c4 c5 c6 c7 c8 c9 c10 c11 c12 c13:Bool} (hi:8∈Region.ready .any opsR #[c0,c1,c2,c3,c4,c5,c6,c7,c8,c9,c10,c11,c12,c13]):c8=false:=by
 obtain ⟨h1,o,ho,hd⟩:=mem_ready.1 hi
 obtain rfl:oR8=o:=Option.some.inj ho
 exact h1
theorem readyR_9 {c0 c1 c2 c3 c4 c5 c6 c7 c8 c9 c10 c11 c12 c13:Bool} (hi:9∈Region.ready .any opsR #[c0,c1,c2,c3,c4,c5,c6,c7,c8,c9,c10,c11,c12,c13]):c9=false∧c8=true:=by
 obtain ⟨h1,o,ho,hd⟩:=mem_ready.1 hi
 obtain rfl:oR9=o:=Option.some.inj ho
 exact ⟨h1,hd ⟨8, .data⟩ (by simp [oR9]) rfl⟩
theorem readyR_10 {c0 c1 c2 c3 c4 c5 c6 c7 c8 c9 c10 c11 c12 c13:Bool} (hi:10∈Region.ready .any opsR #[c0,c1,c2,c3,c4,c5,c6,c7,c8,c9,c10,c11,c12,c13]):c10=false∧c9=true:=by
 obtain ⟨h1,o,ho,hd⟩:=mem_ready.1 hi
 obtain rfl:oR10=o:=Option.some.inj ho
 exact ⟨h1,hd ⟨9, .data⟩ (by simp [oR10]) rfl⟩
theorem readyR_11 {c0 c1 c2 c3 c4 c5 c6 c7 c8 c9 c10 c11 c12 c13:Bool} (hi:11∈Region.ready .any opsR #[c0,c1,c2,c3,c4,c5,c6,c7,c8,c9,c10,c11,c12,c13]):c11=false∧c3=true∧c7=true∧c10=true:=by
 obtain ⟨h1,o,ho,hd⟩:=mem_ready.1 hi
 obtain rfl:oR11=o:=Option.some.inj ho
 exact ⟨h1,hd ⟨3, .data⟩ (by simp [oR11]) rfl,hd ⟨7, .data⟩ (by simp [oR11]) rfl,hd ⟨10, .data⟩ (by simp [oR11]) rfl⟩
theorem readyR_12 {c0 c1 c2 c3 c4 c5 c6 c7 c8 c9 c10 c11 c12 c13:Bool} (hi:12∈Region.ready .any opsR #[c0,c1,c2,c3,c4,c5,c6,c7,c8,c9,c10,c11,c12,c13]):c12=false∧c0=true∧c11=true:=by
 obtain ⟨h1,o,ho,hd⟩:=mem_ready.1 hi
 obtain rfl:oR12=o:=Option.some.inj ho
 exact ⟨h1,hd ⟨0, .data⟩ (by simp [oR12]) rfl,hd ⟨11, .data⟩ (by simp [oR12]) rfl⟩
theorem readyR_13 {c0 c1 c2 c3 c4 c5 c6 c7 c8 c9 c10 c11 c12 c13:Bool} (hi:13∈Region.ready .any opsR #[c0,c1,c2,c3,c4,c5,c6,c7,c8,c9,c10,c11,c12,c13]):c13=false∧c12=true:=by
 obtain ⟨h1,o,ho,hd⟩:=mem_ready.1 hi
 obtain rfl:oR13=o:=Option.some.inj ho
 exact ⟨h1,hd ⟨12, .data⟩ (by simp [oR13]) rfl⟩
theorem allR {c0 c1 c2 c3 c4 c5 c6 c7 c8 c9 c10 c11 c12 c13:Bool} (h:Region.ready .any opsR #[c0,c1,c2,c3,c4,c5,c6,c7,c8,c9,c10,c11,c12,c13]=[]):c0=true∧c1=true∧c2=true∧c3=true∧c4=true∧c5=true∧c6=true∧c7=true∧c8=true∧c9=true∧c10=true∧c11=true∧c12=true∧c13=true:=by
 have n0:c0=true:=by
  cases c0 with
  | true=> rfl
  | false=>
   have hm:0∈Region.ready .any opsR #[false,c1,c2,c3,c4,c5,c6,c7,c8,c9,c10,c11,c12,c13]:=mem_ready.2 ⟨rfl,oR0,rfl,fun e he _=> by
    simp only [oR0,List.mem_toArray,List.not_mem_nil]at he⟩
   rw [h]at hm
   cases hm
 have n1:c1=true:=by
  cases c1 with
  | true=> rfl
  | false=>
   have hm:1∈Region.ready .any opsR #[c0,false,c2,c3,c4,c5,c6,c7,c8,c9,c10,c11,c12,c13]:=mem_ready.2 ⟨rfl,oR1,rfl,fun e he _=> by
    simp only [oR1,List.mem_toArray,List.not_mem_nil]at he⟩
   rw [h]at hm
   cases hm
 have n2:c2=true:=by
  cases c2 with
  | true=> rfl
  | false=>
   have hm:2∈Region.ready .any opsR #[c0,c1,false,c3,c4,c5,c6,c7,c8,c9,c10,c11,c12,c13]:=mem_ready.2 ⟨rfl,oR2,rfl,fun e he _=> by
    simp only [oR2,List.mem_toArray,List.mem_cons,List.not_mem_nil,or_false]at he
    rcases he with rfl
    ·exact n1⟩
   rw [h]at hm
   cases hm
 have n3:c3=true:=by
  cases c3 with
  | true=> rfl
  | false=>
   have hm:3∈Region.ready .any opsR #[c0,c1,c2,false,c4,c5,c6,c7,c8,c9,c10,c11,c12,c13]:=mem_ready.2 ⟨rfl,oR3,rfl,fun e he _=> by
    simp only [oR3,List.mem_toArray,List.mem_cons,List.not_mem_nil,or_false]at he
    rcases he with rfl
    ·exact n2⟩
   rw [h]at hm
   cases hm
 have n4:c4=true:=by
  cases c4 with
  | true=> rfl
  | false=>
   have hm:4∈Region.ready .any opsR #[c0,c1,c2,c3,false,c5,c6,c7,c8,c9,c10,c11,c12,c13]:=mem_ready.2 ⟨rfl,oR4,rfl,fun e he _=> by
    simp only [oR4,List.mem_toArray,List.not_mem_nil]at he⟩
   rw [h]at hm
   cases hm
 have n5:c5=true:=by
  cases c5 with
  | true=> rfl
  | false=>
   have hm:5∈Region.ready .any opsR #[c0,c1,c2,c3,c4,false,c6,c7,c8,c9,c10,c11,c12,c13]:=mem_ready.2 ⟨rfl,oR5,rfl,fun e he _=> by
    simp only [oR5,List.mem_toArray,List.mem_cons,List.not_mem_nil,or_false]at he
    rcases he with rfl
    ·exact n4⟩
   rw [h]at hm
   cases hm
 have n6:c6=true:=by
  cases c6 with
  | true=> rfl
  | false=>
   have hm:6∈Region.ready .any opsR #[c0,c1,c2,c3,c4,c5,false,c7,c8,c9,c10,c11,c12,c13]:=mem_ready.2 ⟨rfl,oR6,rfl,fun e he _=> by
    simp only [oR6,List.mem_toArray,List.mem_cons,List.not_mem_nil,or_false]at he
    rcases he with rfl | rfl
    ·exact n5
    ·exact n3⟩
   rw [h]at hm
   cases hm
 have n7:c7=true:=by
  cases c7 with
  | true=> rfl
  | false=>
   have hm:7∈Region.ready .any opsR #[c0,c1,c2,c3,c4,c5,c6,false,c8,c9,c10,c11,c12,c13]:=mem_ready.2 ⟨rfl,oR7,rfl,fun e he _=> by
    simp only [oR7,List.mem_toArray,List.mem_cons,List.not_mem_nil,or_false]at he
    rcases he with rfl | rfl
    ·exact n6
    ·exact n6⟩
   rw [h]at hm
   cases hm
 have n8:c8=true:=by
  cases c8 with
  | true=> rfl
  | false=>
   have hm:8∈Region.ready .any opsR #[c0,c1,c2,c3,c4,c5,c6,c7,false,c9,c10,c11,c12,c13]:=mem_ready.2 ⟨rfl,oR8,rfl,fun e he _=> by
    simp only [oR8,List.mem_toArray,List.not_mem_nil]at he⟩
   rw [h]at hm
   cases hm
 have n9:c9=true:=by
  cases c9 with
  | true=> rfl
  | false=>
   have hm:9∈Region.ready .any opsR #[c0,c1,c2,c3,c4,c5,c6,c7,c8,false,c10,c11,c12,c13]:=mem_ready.2 ⟨rfl,oR9,rfl,fun e he _=> by
    simp only [oR9,List.mem_toArray,List.mem_cons,List.not_mem_nil,or_false]at he
    rcases he with rfl
    ·exact n8⟩
   rw [h]at hm
   cases hm
 have n10:c10=true:=by
  cases c10 with
  | true=> rfl
  | false=>
   have hm:10∈Region.ready .any opsR #[c0,c1,c2,c3,c4,c5,c6,c7,c8,c9,false,c11,c12,c13]:=mem_ready.2 ⟨rfl,oR10,rfl,fun e he _=> by
    simp only [oR10,List.mem_toArray,List.mem_cons,List.not_mem_nil,or_false]at he
    rcases he with rfl | rfl
    ·exact n9
    ·exact n7⟩
   rw [h]at hm
   cases hm
 have n11:c11=true:=by
  cases c11 with
  | true=> rfl
  | false=>
   have hm:11∈Region.ready .any opsR #[c0,c1,c2,c3,c4,c5,c6,c7,c8,c9,c10,false,c12,c13]:=mem_ready.2 ⟨rfl,oR11,rfl,fun e he _=> by
    simp only [oR11,List.mem_toArray,List.mem_cons,List.not_mem_nil,or_false]at he
    rcases he with rfl | rfl | rfl
    ·exact n3
    ·exact n7
    ·exact n10⟩
   rw [h]at hm
   cases hm
 have n12:c12=true:=by
  cases c12 with
  | true=> rfl
  | false=>
   have hm:12∈Region.ready .any opsR #[c0,c1,c2,c3,c4,c5,c6,c7,c8,c9,c10,c11,false,c13]:=mem_ready.2 ⟨rfl,oR12,rfl,fun e he _=> by
    simp only [oR12,List.mem_toArray,List.mem_cons,List.not_mem_nil,or_false]at he
    rcases he with rfl | rfl | rfl
    ·exact n0
    ·exact n11
    ·exact n10⟩
   rw [h]at hm
   cases hm
 have n13:c13=true:=by
  cases c13 with
  | true=> rfl
  | false=>
   have hm:13∈Region.ready .any opsR #[c0,c1,c2,c3,c4,c5,c6,c7,c8,c9,c10,c11,c12,false]:=mem_ready.2 ⟨rfl,oR13,rfl,fun e he _=> by
    simp only [oR13,List.mem_toArray,List.mem_cons,List.not_mem_nil,or_false]at he
    rcases he with rfl | rfl | rfl | rfl | rfl | rfl | rfl | rfl | rfl | rfl | rfl | rfl | rfl | rfl | rfl
    ·exact n12
    ·exact n12
    ·exact n0
    ·exact n1
    ·exact n2
    ·exact n3
    ·exact n4
    ·exact n5
    ·exact n6
    ·exact n7
    ·exact n8
    ·exact n9
    ·exact n10
    ·exact n11
    ·exact n12⟩
   rw [h]at hm
   cases hm
 exact ⟨n0,n1,n2,n3,n4,n5,n6,n7,n8,n9,n10,n11,n12,n13⟩
set_option maxHeartbeats 8000000 in
theorem step_R {Q:Exit→Act→World→Prop} (w1:World) (bx:Nat) (d:Desc) (t0:Value) (hbx:BoxD w1 bx d) (hv:validF d.media=true) (hm:d.media.length≤250000) (hs0: -9223372036854775808≤d.size) (hs1:d.size≤9223372036854775807) (listed:Array Bool) (a:Act) (W:World) (i:Nat) (hi:i∈Region.ready .any opsR listed) (hI:InvR w1 bx d t0 listed a W):wpOp Tryz.prog opsR Q i (InvR w1 bx d t0 (listed.setIfInBounds i true)) a W:=by
 obtain ⟨c0,c1,c2,c3,c4,c5,c6,c7,c8,c9,c10,c11,c12,c13,t3,t4,t5,t6,t7,t8,t9,t10,t11,t12,t13,t14,t15,t2,rfl,rfl,F⟩:=hI
 have h9:=readyR_lt hi
 have hB:BoxD W bx d:=⟨hbx.row.below F.below hbx.row.lt,hbx.dig⟩
 have hcase:i=0∨i=1∨i=2∨i=3∨i=4∨i=5∨i=6∨i=7∨i=8∨i=9∨i=10∨i=11∨i=12∨i=13:=by omega
 rcases hcase with rfl | rfl | rfl | rfl | rfl | rfl | rfl | rfl | rfl | rfl | rfl | rfl | rfl | rfl
 ·obtain h0:=readyR_0 hi
  refine wpOp_step (o:=oR0) rfl (fun K hK=> ?_)
  rw [if_pos (by rfl)]
  have G:=F.go (below_alloc' W (.cells #[.string (sb mediaK), .string (sb digK), .string (sb sizeK)] 9))
  exact op_run (.slice (some ⟨W.heap.size,0,none⟩) 3 3) _ (by kernel_rfl) (hK _ _ ⟨true,c1,c2,c3,c4,c5,c6,c7,c8,c9,c10,c11,c12,c13,_,t4,t5,t6,t7,t8,t9,t10,t11,t12,t13,t14,t15,t2,rfl,rfl,⟨G.below,(fun _=> ⟨_,rfl,StrsAt.new3 W mediaK digK sizeK⟩),G.f1,G.f2,G.f3,G.f4,G.f5,G.f6,G.f7,G.f8,G.f9,G.f10,G.f11,G.f12,G.f13⟩⟩)
 ·obtain h0:=readyR_1 hi
  refine wpOp_step (o:=oR1) rfl (fun K hK=> ?_)
  rw [if_pos (by rfl)]
  exact op_run (.pointer (some ⟨bx,0,none⟩)) W (by kernel_rfl) (hK _ _ ⟨c0,true,c2,c3,c4,c5,c6,c7,c8,c9,c10,c11,c12,c13,t3,_,t5,t6,t7,t8,t9,t10,t11,t12,t13,t14,t15,t2,rfl,rfl,⟨F.below,F.f0,(fun _=> rfl),F.f2,F.f3,F.f4,F.f5,F.f6,F.f7,F.f8,F.f9,F.f10,F.f11,F.f12,F.f13⟩⟩)
 ·obtain ⟨h0,hd1⟩:=readyR_2 hi
  refine wpOp_step (o:=oR2) rfl (fun K hK=> ?_)
  rw [if_pos (by rfl)]
  have e4:=F.f1 hd1
  subst e4
  have hc:=hB.c0
  refine op_run (.string (sb d.media)) W ?_ (hK _ _ ⟨c0,c1,true,c3,c4,c5,c6,c7,c8,c9,c10,c11,c12,c13,t3,_,_,t6,t7,t8,t9,t10,t11,t12,t13,t14,t15,t2,rfl,rfl,⟨F.below,F.f0,F.f1,(fun _=> rfl),F.f3,F.f4,F.f5,F.f6,F.f7,F.f8,F.f9,F.f10,F.f11,F.f12,F.f13⟩⟩)
  unfold actR oR2
  go_simp
 ·obtain ⟨h0,hd2⟩:=readyR_3 hi
  refine wpOp_step (o:=oR3) rfl (fun K hK=> ?_)
  rw [if_pos (by rfl)]
  have e5:=F.f2 hd2
  subst e5
  refine js_enterP 113 #[.string (sb d.media)] (by kernel_rfl) (own_form (L:=[⟨4,[],fixF d.media,0⟩]) (n:=1) rfl (by decide) (jo_rtext W d.media hm)) ?_
  rintro e W' ⟨g,k,rfl,H⟩
  have G:=F.go H.out.2.2
  exact ⟨_,rfl,hK _ _ ⟨c0,c1,c2,true,c4,c5,c6,c7,c8,c9,c10,c11,c12,c13,t3,t4,_,_,t7,t8,t9,t10,t11,t12,t13,t14,t15,t2,rfl,rfl,⟨G.below,G.f0,G.f1,G.f2,(fun _=> ⟨g,k,rfl,H.out.2.1⟩),G.f4,G.f5,G.f6,G.f7,G.f8,G.f9,G.f10,G.f11,G.f12,G.f13⟩⟩⟩
 ·obtain h0:=readyR_4 hi
  refine wpOp_step (o:=oR4) rfl (fun K hK=> ?_)
  rw [if_pos (by rfl)]
  exact op_run (.pointer (some ⟨bx,1,none⟩)) W (by kernel_rfl) (hK _ _ ⟨c0,c1,c2,c3,true,c5,c6,c7,c8,c9,c10,c11,c12,c13,t3,t4,t5,t6,_,t8,t9,t10,t11,t12,t13,t14,t15,t2,rfl,rfl,⟨F.below,F.f0,F.f1,F.f2,F.f3,(fun _=> rfl),F.f5,F.f6,F.f7,F.f8,F.f9,F.f10,F.f11,F.f12,F.f13⟩⟩)
 ·obtain ⟨h0,hd4⟩:=readyR_5 hi
  refine wpOp_step (o:=oR5) rfl (fun K hK=> ?_)
  rw [if_pos (by rfl)]
  have e4:=F.f4 hd4
  subst e4
  refine wp_load_mid 25 (.tmp 7) rfl bx 1 rfl (d.dig.map v8) _ hB.arr Tryz.underlying25 rfl (by rw [List.length_map,hbx.dig];kernel_rfl) ?_
  exact hK _ _ ⟨c0,c1,c2,c3,c4,true,c6,c7,c8,c9,c10,c11,c12,c13,t3,t4,t5,t6,_,_,t9,t10,t11,t12,t13,t14,t15,t2,rfl,rfl,⟨F.below,F.f0,F.f1,F.f2,F.f3,F.f4,(fun _=> rfl),F.f6,F.f7,F.f8,F.f9,F.f10,F.f11,F.f12,F.f13⟩⟩
 ·obtain ⟨h0,hd5⟩:=readyR_6 hi
  refine wpOp_step (o:=oR6) rfl (fun K hK=> ?_)
  rw [if_pos (by rfl)]
  have e5:=F.f5 hd5
  subst e5
  refine js_enterP 114 #[.agg (d.dig.map v8).toArray] (by kernel_rfl) (refprint_any d.dig hbx.dig W) ?_
  rintro e W' ⟨rfl,H⟩
  have G:=F.go H
  exact ⟨_,rfl,hK _ _ ⟨c0,c1,c2,c3,c4,c5,true,c7,c8,c9,c10,c11,c12,c13,t3,t4,t5,t6,t7,_,_,t10,t11,t12,t13,t14,t15,t2,rfl,rfl,⟨G.below,G.f0,G.f1,G.f2,G.f3,G.f4,G.f5,(fun _=> rfl),G.f7,G.f8,G.f9,G.f10,G.f11,G.f12,G.f13⟩⟩⟩
 ·obtain ⟨h0,hd6⟩:=readyR_7 hi
  refine wpOp_step (o:=oR7) rfl (fun K hK=> ?_)
  rw [if_pos (by rfl)]
  have e5:=F.f6 hd6
  subst e5
  refine js_enterP 113 #[.string (sb (Dg.text d.dig))] (by kernel_rfl) (own_form (L:=[⟨4,[],fixF (Dg.text d.dig),0⟩]) (n:=1) rfl (by decide) (jo_rtext W (Dg.text d.dig) (by have:=Dg.text_length d.dig;have:=hbx.dig;omega))) ?_
  rintro e W' ⟨g,k,rfl,H⟩
  have G:=F.go H.out.2.2
  exact ⟨_,rfl,hK _ _ ⟨c0,c1,c2,c3,c4,c5,c6,true,c8,c9,c10,c11,c12,c13,t3,t4,t5,t6,t7,t8,_,_,t11,t12,t13,t14,t15,t2,rfl,rfl,⟨G.below,G.f0,G.f1,G.f2,G.f3,G.f4,G.f5,G.f6,(fun _=> ⟨g,k,rfl,H.out.2.1⟩),G.f8,G.f9,G.f10,G.f11,G.f12,G.f13⟩⟩⟩
 ·obtain h0:=readyR_8 hi
  refine wpOp_step (o:=oR8) rfl (fun K hK=> ?_)
  rw [if_pos (by rfl)]
  exact op_run (.pointer (some ⟨bx,33,none⟩)) W (by kernel_rfl) (hK _ _ ⟨c0,c1,c2,c3,c4,c5,c6,c7,true,c9,c10,c11,c12,c13,t3,t4,t5,t6,t7,t8,t9,t10,_,t12,t13,t14,t15,t2,rfl,rfl,⟨F.below,F.f0,F.f1,F.f2,F.f3,F.f4,F.f5,F.f6,F.f7,(fun _=> rfl),F.f9,F.f10,F.f11,F.f12,F.f13⟩⟩)
 ·obtain ⟨h0,hd8⟩:=readyR_9 hi
  refine wpOp_step (o:=oR9) rfl (fun K hK=> ?_)
  rw [if_pos (by rfl)]
  have e4:=F.f8 hd8
  subst e4
  have hc:=hB.c33
  refine op_run (.int .i64 d.size) W ?_ (hK _ _ ⟨c0,c1,c2,c3,c4,c5,c6,c7,c8,true,c10,c11,c12,c13,t3,t4,t5,t6,t7,t8,t9,t10,_,_,t13,t14,t15,t2,rfl,rfl,⟨F.below,F.f0,F.f1,F.f2,F.f3,F.f4,F.f5,F.f6,F.f7,F.f8,(fun _=> rfl),F.f10,F.f11,F.f12,F.f13⟩⟩)
  unfold actR oR9
  go_simp
 ·obtain ⟨h0,hd9⟩:=readyR_10 hi
  refine wpOp_step (o:=oR10) rfl (fun K hK=> ?_)
  rw [if_pos (by rfl)]
  have e5:=F.f9 hd9
  subst e5
  refine js_enterP 115 #[.int .i64 d.size] (by kernel_rfl) (own_form (L:=[⟨3,[],textF d.size,0⟩]) (n:=1) rfl (by decide) (jo_rint W d.size hs0 hs1)) ?_
  rintro e W' ⟨g,k,rfl,H⟩
  have G:=F.go H.out.2.2
  exact ⟨_,rfl,hK _ _ ⟨c0,c1,c2,c3,c4,c5,c6,c7,c8,c9,true,c11,c12,c13,t3,t4,t5,t6,t7,t8,t9,t10,t11,_,_,t14,t15,t2,rfl,rfl,⟨G.below,G.f0,G.f1,G.f2,G.f3,G.f4,G.f5,G.f6,G.f7,G.f8,G.f9,(fun _=> ⟨g,k,rfl,H.out.2.1⟩),G.f11,G.f12,G.f13⟩⟩⟩
 ·obtain ⟨h0,hd3,hd7,hd10⟩:=readyR_11 hi
  refine wpOp_step (o:=oR11) rfl (fun K hK=> ?_)
  rw [if_pos (by rfl)]
  obtain ⟨g1,k1,e1,q1⟩:=F.f3 hd3
  obtain ⟨g2,k2,e2,q2⟩:=F.f7 hd7
  obtain ⟨g3,k3,e3,q3⟩:=F.f10 hd10
  have G:=F.go (below_alloc' W (.cells #[.slice (some ⟨g1,0,none⟩) 1 k1, .slice (some ⟨g2,0,none⟩) 1 k2, .slice (some ⟨g3,0,none⟩) 1 k3] 29))
  exact op_run _ _ (run_v (by simp only [List.map_toArray,List.map_cons,List.map_nil];show (Instr.buildSlice _ _ #[(0,t6),(1,t10),(2,t13)]).run _ _=_;rw [e1,e2,e3];exact run_build_sls3 W _ _ _ _ _ _ _ _ _)) (hK _ _ ⟨c0,c1,c2,c3,c4,c5,c6,c7,c8,c9,c10,true,c12,c13,t3,t4,t5,t6,t7,t8,t9,t10,t11,t12,t13,_,t15,t2,rfl,rfl,⟨G.below,G.f0,G.f1,G.f2,G.f3,G.f4,G.f5,G.f6,G.f7,G.f8,G.f9,G.f10,(fun _=> ⟨_,_,_,_,rfl,SlsAt.new3 W q1 q2 q3,rfl,rfl,rfl⟩),G.f12,G.f13⟩⟩)
 ·obtain ⟨h0,hd0,hd11⟩:=readyR_12 hi
  refine wpOp_step (o:=oR12) rfl (fun K hK=> ?_)
  rw [if_pos (by rfl)]
  obtain ⟨A,e1,q1⟩:=F.f0 hd0
  obtain ⟨A2,p,q,r,e2,q2,r1,r2,r3⟩:=F.f11 hd11
  subst e1 e2
  have hrow:rowsOf [p,q,r]=[[⟨4,[],fixF d.media,0⟩],[⟨4,[],fixF (Dg.text d.dig),0⟩],[⟨3,[],textF d.size,0⟩]]:=by
   show [p.row,q.row,r.row]=_
   rw [r1,r2,r3]
  refine js_enterP 112 #[.slice A 3 3, .slice A2 3 3] (by kernel_rfl) (R:=fun e w'=> ∃v',e= .returned v'∧Hid (OwnVals w' W.heap.size v' (rowX d)∧Below W.heap.size W w')) (by
   have h3:=jo_robject W A 3 3 [mediaK,digK,sizeK] q1 keys_three A2 3 3 [p,q,r] q2 (by decide) (short_three (by rw [r1,fix_same _ hv];exact short_one (by omega)) (by rw [r2,fix_same _ (text_valid _)];exact short_one (by have:=Dg.text_length d.dig;have:=hbx.dig;omega)) (by rw [r3];exact short_one (by have:=textF_len hs0 hs1;omega))) (by rw [hrow];exact Nat.le_of_ble_eq_true rfl)
   rw [hrow]at h3
   exact h3) ?_
  rintro e W' ⟨v',rfl,H⟩
  have G:=F.go H.out.2
  exact ⟨_,rfl,hK _ _ ⟨c0,c1,c2,c3,c4,c5,c6,c7,c8,c9,c10,c11,true,c13,_,t4,t5,t6,t7,t8,t9,t10,t11,t12,t13,_,_,t2,rfl,rfl,⟨G.below,G.f0,G.f1,G.f2,G.f3,G.f4,G.f5,G.f6,G.f7,G.f8,G.f9,G.f10,G.f11,(fun _=> H.out.1.mono F.below.size),G.f13⟩⟩⟩
 ·obtain ⟨h0,hd12⟩:=readyR_13 hi
  refine wpOp_step (o:=oR13) rfl (fun K hK=> ?_)
  rw [if_pos (by rfl)]
  have e:=F.f12 hd12
  exact op_run t15 W rfl (hK _ _ ⟨c0,c1,c2,c3,c4,c5,c6,c7,c8,c9,c10,c11,c12,true,t3,t4,t5,t6,t7,t8,t9,t10,t11,t12,t13,t14,t15,_,rfl,rfl,⟨F.below,F.f0,F.f1,F.f2,F.f3,F.f4,F.f5,F.f6,F.f7,F.f8,F.f9,F.f10,F.f11,F.f12,(fun _=> e)⟩⟩)
theorem row_region {Q:Exit→Act→World→Prop} (w1 w2:World) (bx:Nat) (d:Desc) (t0 t2:Value) (hbx:BoxD w1 bx d) (hv:validF d.media=true) (hm:d.media.length≤250000) (hs0: -9223372036854775808≤d.size) (hs1:d.size≤9223372036854775807) (h2:Below w1.heap.size w1 w2)
  (hK:∀(W:World) (t3 t4 t5 t6 t7 t8 t9 t10 t11 t12 t13 t14 t15 t2:Value),OwnVals W w1.heap.size t2 (rowX d)→Below w1.heap.size w1 W→Q .normal (actR t0 (.pointer (some ⟨bx,0,none⟩)) t2 t3 t4 t5 t6 t7 t8 t9 t10 t11 t12 t13 t14 t15) W):
  wpAny Tryz.prog .any opsR Q 14 (Array.replicate 14 false) (actR t0 (.pointer (some ⟨bx,0,none⟩)) t2 undef undef undef undef undef undef undef undef undef undef undef undef undef) w2:=by
 refine any_inv (InvR w1 bx d t0) (fun listed a W i hi hI=> step_R w1 bx d t0 hbx hv hm hs0 hs1 listed a W i hi hI) (fun listed a W hr hI=> ?_) _ _ _ _ (by decide) ?_
 ·obtain ⟨c0,c1,c2,c3,c4,c5,c6,c7,c8,c9,c10,c11,c12,c13,t3,t4,t5,t6,t7,t8,t9,t10,t11,t12,t13,t14,t15,t2,rfl,rfl,F⟩:=hI
  have hall:=allR hr
  exact hK _ _ _ _ _ _ _ _ _ _ _ _ _ _ _ (F.f13 hall.2.2.2.2.2.2.2.2.2.2.2.2.2) F.below
 ·exact ⟨false,false,false,false,false,false,false,false,false,false,false,false,false,false,undef,undef,undef,undef,undef,undef,undef,undef,undef,undef,undef,undef,undef,t2,rfl,rfl,⟨h2,(fun h=> by cases h),(fun h=> by cases h),(fun h=> by cases h),(fun h=> by cases h),(fun h=> by cases h),(fun h=> by cases h),(fun h=> by cases h),(fun h=> by cases h),(fun h=> by cases h),(fun h=> by cases h),(fun h=> by cases h),(fun h=> by cases h),(fun h=> by cases h),(fun h=> by cases h)⟩⟩
set_option maxHeartbeats 4000000 in
theorem mt_rrow (w:World) (d:Desc) (hd:d.dig.length=32) (hv:validF d.media=true) (hm:d.media.length≤250000) (h0: -9223372036854775808≤d.size) (h1:d.size≤9223372036854775807):
  Calls Tryz.prog 75 #[.agg (dv d).toArray] w fun e w'=> ∃v',e= .returned v'∧Hid (OwnVals w' w.heap.size v' (rowX d)∧Below w.heap.size w w'):=by
 have HBX:=Lib.hid (show BoxD (w.alloc (.cells (dv d).toArray 27)) w.heap.size d from ⟨Row.new _ _ _,hd⟩)
 have HB0:=Lib.hid (below_alloc' w (.cells (dv d).toArray 27))
 go_enter Tryz.func75,Tryz.ntmps75
 go_upto_region 1 with fail
 generalize w.alloc (.cells (dv d).toArray 27)=w0 at*
 refine wp_region_noPanic ?_
 refine wp_region_any (by kernel_rfl) ?_
 refine row_region w0 _ w.heap.size d _ _ HBX.out hv hm h0 h1 (below_drewN (Below.refl _ _) 1) ?_
 intro W t3 t4 t5 t6 t7 t8 t9 t10 t11 t12 t13 t14 t15 t2 P1 P2
 have HX:=Lib.hid (And.intro (P1.mono HB0.out.size) (HB0.out.trans (P2.mono HB0.out.size)))
 clear P1 P2
 refine NoPanic.normal ?_
 unfold actR
 go_wp2_with fail
 go_ret
 exact ⟨_,rfl,HX⟩
end Go.Proofs.YtmkjcleecjjchaaGreatDoor
