import Derived.Test.YtgmangikcfakgaaGreatDoorPA20
import Derived.Shelf.SlSortCmp.Whole1
import Derived.Ground.SlsfProg
set_option maxRecDepth 100000
set_option maxHeartbeats 40000000
namespace Go.Proofs.YtgmangikcfakgaaGreatDoor
open Go.RowKit Sh Jt Js
theorem q0a (w:World) (A1 A2:Option Addr) (n1 c1 n2 c2:Nat) (L M:List V) (hL:ValsAt w A1 n1 c1 L) (hM:ValsAt w A2 n2 c2 M) (hn:n1≤140737488351232) (hn2:n2≤140737488351232):
  Calls Tryz.prog 111 #[.slice A1 n1 c1, .slice A2 n2 c2] w fun e w'=> e= .returned (.bool (decide (L=M)))∧∃m,w'=w.drewN m:=by
 have HL:=Qh hL
 have HM:=Qh hM
 have hlen:=hL.len
 have hlen2:=hM.len
 clear hL hM
 by_cases hne:n1=n2
 ·subst hne
  go_enter Tryz.func111,Tryz.ntmps111
  go_wp2_with fail;go_loopw [13] (fun i wr=> ∃k m:Nat,k≤n1∧i= .int .i64 k∧Hid (L.take k=M.take k)∧wr=w.drewN m) (fun i _=> n1 - (intOf i).toNat)
  case atStart=> exact ⟨0,0,Nat.zero_le _,rfl,Qh rfl,rfl⟩
  case round=>
   obtain ⟨k,m,hk,rfl,HO,rfl⟩:=hrel
   by_cases hlt:k < n1
   ·obtain ⟨b,o,rfl,hbl,_⟩:=HL.out.at_ (by omega)
    obtain ⟨b2,o2,rfl,hbl2,_⟩:=HM.out.at_ (by omega)
    have hkl:k < L.length:=by omega
    have hkm:k < M.length:=by omega
    obtain ⟨x0,x1,x2,x3⟩:=HL.out.cells hkl
    obtain ⟨y0,y1,y2,y3⟩:=HM.out.cells hkm
    have hlt':(k:Int) < (n1:Int):=by omega
    have q1:=qft L[k].key M[k].key
    have q2:=qft L[k].text M[k].text
    have HT:=Qh (And.intro (List.take_succ_eq_append_getElem hkl) (List.take_succ_eq_append_getElem hkm))
    have HG:=Qh (show L=M→L[k]=M[k]from fun h=> by subst h;rfl)
    generalize L[k]=p at*;generalize M[k]=q at*;by_cases he:p=q
    ·subst he
     have HS:=Qh (show L.take (k+1)=M.take (k+1)by rw [HT.out.1,HT.out.2,HO.out])
     generalize sb p.key=s1 at*;generalize sb p.text=s2 at*;generalize p.kind=s3 at*;generalize p.count=s4 at*;have hq:∀W,(Op.equalIn 10000 72 (.agg #[.int .i64 s3, .string s1, .string s2, .int .i64 s4]) (.agg #[.int .i64 s3, .string s1, .string s2, .int .i64 s4])).run Tryz.prog W= .ok true W:=fun W=> by
      have:=js_eq W s3 s3 s4 s4 s1 s2 s1 s2
      simpa using this
     clear q1 q2 HT HG;go_upto_region 6 with fail;go_quiet (fail)
     rw [World.drewN_drewN];go_wp2_with fail;go_roundw
     case rel=> exact ⟨k+1,m+nq,by omega,by go_num,HS,rfl⟩
     case measure=> simp [intOf] <;> omega
    ·have HN:=Qh (show decide (L=M)=false from decide_eq_false fun h=> he (HG.out h))
     have hz:(((p.kind==q.kind) && ((sb p.key).toList==(sb q.key).toList)) && (((sb p.text).toList==(sb q.text).toList) && (p.count==q.count)))=false:=by
      rw [q1,q2];cases h0:(p.kind==q.kind)with
      | false=> rfl
      | true=>
       cases h1:(p.key==q.key)with
       | false=> rfl
       | true=>
        cases h2:(p.text==q.text)with
        | false=> rfl
        | true=>
         cases h3:(p.count==q.count)with
         | false=> rfl
         | true=>
          refine absurd ?_ he
          obtain ⟨a1,a2,a3,a4⟩:=p
          obtain ⟨b1,b2,b3,b4⟩:=q
          obtain rfl:=LawfulBEq.eq_of_beq h0
          obtain rfl:=LawfulBEq.eq_of_beq h1
          obtain rfl:=LawfulBEq.eq_of_beq h2
          obtain rfl:=LawfulBEq.eq_of_beq h3
          rfl
     have hq:∀W,(Op.equalIn 10000 72 (.agg #[.int .i64 p.kind, .string (sb p.key), .string (sb p.text), .int .i64 p.count]) (.agg #[.int .i64 q.kind, .string (sb q.key), .string (sb q.text), .int .i64 q.count])).run Tryz.prog W= .ok false W:=fun W=> by
      rw [js_eq,hz]
     clear q1 q2 HT HG hz;generalize sb p.key=s1 at*;generalize sb p.text=s2 at*;generalize p.kind=s3 at*;generalize p.count=s4 at*;generalize sb q.key=s5 at*;generalize sb q.text=s6 at*;generalize q.kind=s7 at*;generalize q.count=s8 at*;go_upto_region 6 with fail;go_quiet (fail)
     rw [World.drewN_drewN];go_wp2_with fail;go_ret;exact ⟨by rw [HN.out];rfl,_,rfl⟩
   ·obtain rfl:k=n1:=by omega
    have HN:Hid (decide (L=M)=true):=Qh (decide_eq_true (by
     have h:=HO.out
     rwa [List.take_of_length_le (by omega),List.take_of_length_le (by omega)]at h))
    have hge:¬(k:Int) < (k:Int):=by omega
    go_wp2_with fail;go_ret;exact ⟨by rw [HN.out];rfl,_,rfl⟩
 ·have HN:=Qh (show decide (L=M)=false from decide_eq_false fun h=> hne (by rw [←hlen,←hlen2,h]))
  have hb:((n1:Int) !=(n2:Int))=true:=bne_iff_ne.2 (by omega)
  clear hne;go_enter Tryz.func111,Tryz.ntmps111
  go_wp2_with fail;go_ret;exact ⟨by rw [HN.out];rfl,0,rfl⟩
end Go.Proofs.YtgmangikcfakgaaGreatDoor
namespace Go.Proofs
open Go.Shelf
def Tryz.sortR_ren:Go.Shelf.Ren:=⟨fun | 6=> 86 | 15=> 123 | 14=> 122 | 28=> 162 | 29=> 163 | 20=> 154 | 21=> 155 | 22=> 156 | 23=> 157 | 24=> 158 | 25=> 159 | 26=> 160 | 27=> 161 | 46=> 184 | 47=> 185 | 48=> 186 | 49=> 187 | 50=> 188 | 57=> 196 | n=> n,fun | 22=> 69 | 24=> 26 | 25=> 109 | 3=> 3 | 39=> 141 | 0=> 0 | 53=> 144 | 55=> 182 | 4=> 4 | 46=> 175 | 45=> 174 | 50=> 113 | 5=> 5 | 9=> 9 | 66=> 200 | 70=> 204 | 76=> 207 | 77=> 104 | n=> n,fun | n=> n⟩
theorem Tryz.sortR:Go.Proofs.SlLaysF.n6 Tryz.prog Tryz.sortR_ren:= {
 mixed:=by kernel_rfl
 f6:=⟨Tryz.f86.name,by decide,Tryz.func86.trans (congrArg some (by kernel_rfl))⟩
 f14:=⟨Tryz.f122.name,by decide,Tryz.func122.trans (congrArg some (by kernel_rfl))⟩
 f15:=Tryz.func123.trans (congrArg some (by kernel_rfl))
 f20:=⟨Tryz.f154.name,by decide,Tryz.func154.trans (congrArg some (by kernel_rfl))⟩
 f21:=⟨Tryz.f155.name,by decide,Tryz.func155.trans (congrArg some (by kernel_rfl))⟩
 f22:=⟨Tryz.f156.name,by decide,Tryz.func156.trans (congrArg some (by kernel_rfl))⟩
 f23:=⟨Tryz.f157.name,by decide,Tryz.func157.trans (congrArg some (by kernel_rfl))⟩
 f24:=⟨Tryz.f158.name,by decide,Tryz.func158.trans (congrArg some (by kernel_rfl))⟩
 f25:=⟨Tryz.f159.name,by decide,Tryz.func159.trans (congrArg some (by kernel_rfl))⟩
 f26:=⟨Tryz.f160.name,by decide,Tryz.func160.trans (congrArg some (by kernel_rfl))⟩
 f27:=⟨Tryz.f161.name,by decide,Tryz.func161.trans (congrArg some (by kernel_rfl))⟩
 f28:=Tryz.func162.trans (congrArg some (by kernel_rfl))
 f29:=Tryz.func163.trans (congrArg some (by kernel_rfl))
 f46:=⟨Tryz.f184.name,by decide,Tryz.func184.trans (congrArg some (by kernel_rfl))⟩
 f47:=Tryz.func185.trans (congrArg some (by kernel_rfl))
 f48:=Tryz.func186.trans (congrArg some (by kernel_rfl))
 f49:=⟨Tryz.f187.name,by decide,Tryz.func187.trans (congrArg some (by kernel_rfl))⟩
 f50:=⟨Tryz.f188.name,by decide,Tryz.func188.trans (congrArg some (by kernel_rfl))⟩
 f57:=⟨Tryz.f196.name,by decide,Tryz.func196.trans (congrArg some (by kernel_rfl))⟩
 t0:=Tryz.underlying0
 a0:=Tryz.isAgg0
 z0:=Tryz.sizeOf0
 v0:=Tryz.zeroValue0
 t3:=Tryz.underlying3
 a3:=Tryz.isAgg3
 z3:=Tryz.sizeOf3
 v3:=Tryz.zeroValue3
 t4:=Tryz.underlying4
 a4:=Tryz.isAgg4
 z4:=Tryz.sizeOf4
 v4:=Tryz.zeroValue4
 t5:=Tryz.underlying5
 a5:=Tryz.isAgg5
 z5:=Tryz.sizeOf5
 v5:=Tryz.zeroValue5
 t9:=Tryz.underlying9
 a9:=Tryz.isAgg9
 z9:=Tryz.sizeOf9
 v9:=Tryz.zeroValue9
 t22:=Tryz.underlying69
 a22:=Tryz.isAgg69
 z22:=Tryz.sizeOf69
 v22:=Tryz.zeroValue69
 a24:=Tryz.isAgg26
 z24:=Tryz.sizeOf26
 t25:=Tryz.underlying109
 a25:=Tryz.isAgg109
 z25:=Tryz.sizeOf109
 v25:=Tryz.zeroValue109
 t39:=Tryz.underlying141
 a39:=Tryz.isAgg141
 z39:=Tryz.sizeOf141
 v39:=Tryz.zeroValue141
 t45:=Tryz.underlying174
 a45:=Tryz.isAgg174
 z45:=Tryz.sizeOf174
 v45:=Tryz.zeroValue174
 t46:=Tryz.underlying175
 a46:=Tryz.isAgg175
 z46:=Tryz.sizeOf175
 v46:=Tryz.zeroValue175
 t50:=Tryz.underlying113
 a50:=Tryz.isAgg113
 z50:=Tryz.sizeOf113
 v50:=Tryz.zeroValue113
 t53:=Tryz.underlying144
 a53:=Tryz.isAgg144
 z53:=Tryz.sizeOf144
 v53:=Tryz.zeroValue144
 t55:=Tryz.underlying182
 a55:=Tryz.isAgg182
 z55:=Tryz.sizeOf182
 v55:=Tryz.zeroValue182
 t66:=Tryz.underlying200
 a66:=Tryz.isAgg200
 z66:=Tryz.sizeOf200
 v66:=Tryz.zeroValue200
 t70:=Tryz.underlying204
 a70:=Tryz.isAgg204
 z70:=Tryz.sizeOf204
 v70:=Tryz.zeroValue204
 t76:=Tryz.underlying207
 a76:=Tryz.isAgg207
 z76:=Tryz.sizeOf207
 v76:=Tryz.zeroValue207
 t77:=Tryz.underlying104
 a77:=Tryz.isAgg104
 z77:=Tryz.sizeOf104
 v77:=Tryz.zeroValue104}
end Go.Proofs
namespace Go.Proofs.YtgmangikcfakgaaGreatDoor
open Go.RowKit Go.Shelf Go.Lib Sh Jt Js
theorem qxl:∀a b:List UInt8,decide (Lib.compareBytes a b < 0)=ltF a b
 | [],[]=> rfl
 | [],_::_=> rfl
 | _::_,[]=> rfl
 | x::a,y::b=> by
  have ih:=qxl a b
  have hc:Lib.compareBytes (x::a) (y::b)=if x < y then -1 else if y < x then 1 else Lib.compareBytes a b:=rfl
  have hl:ltF (x::a) (y::b)=if x=y then ltF a b else decide (x.toNat < y.toNat):=rfl
  rw [hl];by_cases e:x=y
  ·subst e
   rw [if_neg (UInt8.lt_irrefl x),if_neg (UInt8.lt_irrefl x)]at hc
   rw [hc,if_pos rfl];exact ih
  ·rw [if_neg e]
   by_cases h1:x < y
   ·rw [if_pos h1]at hc
    rw [hc,decide_eq_true (UInt8.lt_iff_toNat_lt.1 h1)];rfl
   ·have h3:¬x.toNat < y.toNat:=fun h=> h1 (UInt8.lt_iff_toNat_lt.2 h)
    have h4:x.toNat≠y.toNat:=fun h=> e (UInt8.toNat_inj.1 h)
    have h2:y < x:=UInt8.lt_iff_toNat_lt.2 (by omega)
    rw [if_neg h1,if_pos h2]at hc
    rw [hc,decide_eq_false h3];rfl
theorem qxt (x y z:List UInt8) (h1:ltF x y=false) (h2:ltF y z=false):ltF x z=false:=by
 cases h:ltF x z with
 | false=> rfl
 | true=>
  by_cases e:x=y
  ·rw [e,h2]at h
   cases h
  ·rw [Js.qc5 y x z (Js.qfh x y e h1) h]at h2
   cases h2
theorem qvw {α:Type} [Inhabited α] (enc:α→Value) (w:World) (g n:Nat) (d:Array α) (os:Array Obj):Kept w (sortWorld enc w g 0 n d os) (·=g):=by
 have hsz:(Sort.putRow enc (Sort.ahead w n) g 0 d).heap.size=w.heap.size:=Sort.size_putRow _ _ _ _ _
 refine ⟨rfl,rfl,rfl,by rw [sortWorld,Go.Sort.size_grow,hsz];omega,fun i hi hne=> ?_⟩
 rw [sortWorld,Sort.heap_grow_old _ _ (by rw [hsz];exact hi)]
 show ((Sort.ahead w n).heap.modify g _)[i]? =_
 rw [Array.getElem?_modify,if_neg (fun e=> hne e.symm)]
 rfl
theorem q21 (W:World) (b:Nat) (p q:Pt) (hp:PtIn W b p) (hq:PtIn W b q):
  Calls Tryz.prog 87 #[p.enc b,q.enc b] W fun e w'=> e= .returned (.int .i64 (Lib.compareBytes (ptKey p) (ptKey q)))∧∃k,w'=W.drewN k:=by
 have c1:=hp.key
 have c2:=hq.key
 have h1:(0:Int) < (p.row.length:Int):=by have:=hp.1;omega
 have h2:(0:Int) < (q.row.length:Int):=by have:=hq.1;omega
 have hcon:Hid (∀W',Calls Tryz.prog 88 #[.string (sb (ptKey p)), .string (sb (ptKey q))] W' fun e w'=> e= .returned (.int .i64 (Lib.compareBytes (ptKey p) (ptKey q)))∧w'=W'):=Qh (fun W'=> by
  have:=Tryz.strings_Compare (sb (ptKey p)) (sb (ptKey q)) W'
  have e:∀l,(sb l).data.toList=l:=fun l=> by rw [sb]
  rw [e,e]at this
  exact this)
 clear hp hq
 unfold Pt.enc
 generalize Lib.compareBytes (ptKey p) (ptKey q)=r at*
 generalize sb (ptKey p)=s1 at*
 generalize sb (ptKey q)=s2 at*
 generalize p.row.length=n1 at*
 generalize q.row.length=n2 at*
 generalize p.cap=k1 at*
 generalize q.cap=k2 at*
 generalize p.off=o1 at*
 generalize q.off=o2 at*
 go_enter Tryz.func87,Tryz.ntmps87
 go_wp2_with fail
 go_quiet ((go_at_call 88;exact Calls.quiet_of_same (hcon.out _)))
 go_wp2_with fail
 go_ret
 exact ⟨rfl,_,rfl⟩
theorem qoh {w:World} {b:Nat}:∀Q:List Pt,(∀p∈Q,PtIn w b p)→∃D:List {p:Pt // PtIn w b p},D.map (·.1)=Q
 | [],_=> ⟨[],rfl⟩
 | p::r,h=> by
  obtain ⟨D,hD⟩:=qoh r (fun q hq=> h q (List.mem_cons_of_mem _ hq))
  exact ⟨⟨p,h p List.mem_cons_self⟩::D,by rw [List.map_cons,hD]⟩
theorem q2i (w:World) (B b g n:Nat) (Q:List Pt) (hR:RowsAt w B b (some ⟨g,0,none⟩) n Q) (hg:g < w.heap.size) (hbg:b≠g) (p0:Pt) (h0:PtIn w b p0) (hn:n < 4611686018427387904):
  Calls Tryz.prog 86 #[.slice (some ⟨g,0,none⟩) n n, .func (.func 87) #[] #[]] w fun e w'=>
   e= .returned (.tuple #[])∧∃Q',Hid (Q'.Perm Q∧Q'.Pairwise fun p q=> ltF (ptKey q) (ptKey p)=false)∧Hid (RowsAt w' B b (some ⟨g,0,none⟩) n Q'∧Kept w w' (·=g)):=by
 obtain ⟨D,hD⟩:=qoh (w:=w) (b:=b) Q hR.ins
 letI:Inhabited {p:Pt // PtIn w b p}:=⟨⟨p0,h0⟩⟩
 have hDl:D.length=n:=by rw [←hR.len,←hD,List.length_map]
 have hH:Sort.Holds (fun x: {p:Pt // PtIn w b p}=> x.1.enc b) w g 0 D.toArray:=by
  intro j hj;rw [List.size_toArray]at hj
  obtain ⟨g',e,_,rr⟩:=hR.at_ (by omega)
  cases e
  have e1:D.toArray[j]! =D[j]:=by simp [hj]
  refine ⟨?_, ?_⟩
  ·rw [Nat.zero_add,e1]
   refine rr.cell ?_
   rw [←hD,List.map_map,List.getElem?_map,List.getElem?_eq_getElem hj];rfl
  ·exact rr.frozen _
 have eg:∀args w,(callFunc 87 args).run Tryz.prog w= .ok (.enter 87 args) w:=enters_of Tryz.func87 (by kernel_rfl) rfl
 have hKS:=fun (m:Nat) (os:Array Obj) (dk:Array {p:Pt // PtIn w b p})=> qvw (fun x: {p:Pt // PtIn w b p}=> x.1.enc b) w g m dk os
 have hin:∀(m:Nat) (os:Array Obj) (dk:Array {p:Pt // PtIn w b p}) (x: {p:Pt // PtIn w b p}),PtIn (sortWorld (fun x: {p:Pt // PtIn w b p}=> x.1.enc b) w g 0 m dk os) b x.1:=fun m os dk x=>
  ⟨x.2.1,x.2.2.kept (hKS m os dk) (fun b' o' e _=> by cases e;exact hbg)⟩
 have hcm:CmpReads Tryz.prog 87 #[] (fun x: {p:Pt // PtIn w b p}=> x.1.enc b) (fun x y=> Lib.compareBytes (ptKey x.1) (ptKey y.1)) g 0 D.toArray.size w:=fun m os dk _ x y=> q21 _ b x.1 y.1 (hin m os dk x) (hin m os dk y)
 have hlt:∀x y: {p:Pt // PtIn w b p},ltOf (fun x y: {p:Pt // PtIn w b p}=> Lib.compareBytes (ptKey x.1) (ptKey y.1)) x y=ltF (ptKey x.1) (ptKey y.1):=fun x y=> qxl _ _
 have hO:Sort.SWO (ltOf (fun x y: {p:Pt // PtIn w b p}=> Lib.compareBytes (ptKey x.1) (ptKey y.1))):=⟨fun x=> by rw [hlt];exact Js.lt_irrefl _,fun x y z h1 h2=> by rw [hlt]at*;exact Js.qc5 _ _ _ h1 h2,fun x y z h1 h2=> by rw [hlt]at*;exact qxt _ _ _ h1 h2⟩
 have hcon:=Any.slices_SortFunc (P:=Tryz.prog) (ρ:=Tryz.sortR_ren) Tryz.sortR (fun x: {p:Pt // PtIn w b p}=> x.1.enc b) (fun _=> rfl) _ hO 87 #[] g 0 n D.toArray w eg hcm.lays hH hg (by rw [List.size_toArray,hDl];exact hn)
 rw [List.size_toArray,hDl]at hcon
 change Calls Tryz.prog 86 #[.slice (some ⟨g,0,none⟩) n n,_] w _ at hcon
 refine hcon.mono ?_
 rintro e w' ⟨rfl,d',m,os,hp,hs,rfl⟩
 have hsz:d'.size=n:=by rw [hp.1,List.size_toArray,hDl]
 have hperm:d'.toList.Perm D:=by
  have:=hp.2.2
  rw [show D.toArray.extract 0 n=D.toArray by rw [←hDl];simp,show d'.extract 0 n=d' by rw [←hsz];simp]at this
  exact this
 refine ⟨rfl,d'.toList.map (·.1),Qh ⟨by rw [←hD];exact hperm.map _, ?_⟩,Qh ⟨⟨by rw [List.length_map,Array.length_toList,hsz],fun hn0=> ?_, ?_⟩,hKS m os d'⟩⟩
 ·rw [List.pairwise_map,List.pairwise_iff_getElem]
  intro i j hi hj hij;have h:=hs i j (Nat.zero_le _) hij (by rw [←hsz];simpa using hj)
  rw [hlt]at h
  have e1:d'[j]! =d'.toList[j]:=by simp at hj;simp [hj]
  have e2:d'[i]! =d'.toList[i]:=by simp at hi;simp [hi]
  rw [←e1,←e2];exact h
 ·obtain ⟨g',e,hB,rr⟩:=hR.at_ hn0
  cases e
  refine ⟨g,rfl,hB, ?_⟩
  have hH2:=holds_sortWorld (fun x: {p:Pt // PtIn w b p}=> x.1.enc b) w g 0 m D.toArray d' os hg hH (by rw [hsz,List.size_toArray,hDl])
  have hb:(sortWorld (fun x: {p:Pt // PtIn w b p}=> x.1.enc b) w g 0 m d' os).heap[g]? =some (.cells (Sort.putCells (fun x: {p:Pt // PtIn w b p}=> x.1.enc b) 0 d' (Q.map (Pt.enc b)).toArray) 26 (0,0)):=by
   rw [sortWorld,Sort.heap_grow_old _ _ (by rw [Sort.size_putRow];exact hg)]
   show ((Sort.ahead w m).heap.modify g _)[g]? =_
   rw [Array.getElem?_modify,if_pos rfl,show (Sort.ahead w m).heap[g]? =w.heap[g]? from rfl,show w.heap[g]? =_ from rr];rfl
  have hps:(Sort.putCells (fun x: {p:Pt // PtIn w b p}=> x.1.enc b) 0 d' (Q.map (Pt.enc b)).toArray).size=n:=by
   rw [Sort.putCells,Array.size_mapIdx,List.size_toArray,List.length_map,hR.len]
  unfold Row;rw [hb];congr 2
  apply Array.ext
  ·rw [hps,List.size_toArray,List.length_map,List.length_map,Array.length_toList,hsz]
  ·intro t h1 h2
   rw [hps]at h1
   have hc:=(hH2 t (by rw [hsz];exact h1)).1
   rw [Nat.zero_add,cell_of_row _ _ _ _ _ _ hb]at hc
   refine Option.some.inj ?_
   rw [←Array.getElem?_eq_getElem,hc,List.getElem_toArray,List.getElem_map,List.getElem_map,getElem!_pos d' t (by rw [hsz];exact h1)]
   rfl
 ·intro p hp2
  obtain ⟨x,_,rfl⟩:=List.mem_map.1 hp2
  exact hin m os d' x
end Go.Proofs.YtgmangikcfakgaaGreatDoor
