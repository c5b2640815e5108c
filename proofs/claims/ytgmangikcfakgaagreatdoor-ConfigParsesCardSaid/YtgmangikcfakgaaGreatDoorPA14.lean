import Derived.Ground.NamesProg
import Derived.Ground.SlgfProg
import Derived.Shelf.Unicode.ValidAny
import Derived.Shelf.SlicesE.IndexFunc
import Derived.Test.YtgmangikcfakgaaGreatDoorPA12
import Derived.Test.YtgmangikcfakgaaGreatDoorPA13
import Derived.Shelf.Strings.SlTrimAscii
set_option maxRecDepth 100000
set_option maxHeartbeats 40000000
namespace Go.Proofs
open Go.Shelf
def Tryz.laysV_ren:Go.Shelf.Ren:=⟨fun | 196=> 146 | 259=> 177 | n=> n,fun | 9=> 9 | 4=> 4 | 3=> 3 | 5=> 5 | 12=> 12 | 119=> 193 | 0=> 0 | 46=> 141 | 139=> 196 | 138=> 195 | 53=> 182 | n=> n,fun | 3=> 2 | 4=> 3 | n=> n⟩
theorem Tryz.laysV:Go.Proofs.Lays.n196 Tryz.prog Tryz.laysV_ren:= {
 mixed:=by kernel_rfl
 f196:=Tryz.func146.trans (congrArg some (by kernel_rfl))
 f259:=Tryz.func177.trans (congrArg some (by kernel_rfl))
 t0:=Tryz.underlying0
 a0:=Tryz.isAgg0
 z0:=Tryz.sizeOf0
 v0:=Tryz.zeroValue0
 t3:=Tryz.underlying3
 a3:=Tryz.isAgg3
 z3:=Tryz.sizeOf3
 v3:=Tryz.zeroValue3
 t4:=Tryz.underlying4
 a4:=Tryz.isAgg4
 z4:=Tryz.sizeOf4
 v4:=Tryz.zeroValue4
 t5:=Tryz.underlying5
 a5:=Tryz.isAgg5
 z5:=Tryz.sizeOf5
 v5:=Tryz.zeroValue5
 t9:=Tryz.underlying9
 a9:=Tryz.isAgg9
 z9:=Tryz.sizeOf9
 v9:=Tryz.zeroValue9
 t12:=Tryz.underlying12
 a12:=Tryz.isAgg12
 z12:=Tryz.sizeOf12
 v12:=Tryz.zeroValue12
 t46:=Tryz.underlying141
 a46:=Tryz.isAgg141
 z46:=Tryz.sizeOf141
 v46:=Tryz.zeroValue141
 t53:=Tryz.underlying182
 a53:=Tryz.isAgg182
 z53:=Tryz.sizeOf182
 v53:=Tryz.zeroValue182
 t119:=Tryz.underlying193
 a119:=Tryz.isAgg193
 z119:=Tryz.sizeOf193
 t138:=Tryz.underlying195
 a138:=Tryz.isAgg195
 z138:=Tryz.sizeOf195
 v138:=Tryz.zeroValue195
 t139:=Tryz.underlying196
 a139:=Tryz.isAgg196
 z139:=Tryz.sizeOf196
 v139:=Tryz.zeroValue196
 g3:=by kernel_rfl
 g4:=by kernel_rfl}
def Tryz.contF_ren:Go.Shelf.Ren:=⟨fun | 8=> 152 | 6=> 183 | n=> n,fun | 22=> 69 | 23=> 26 | 25=> 44 | 4=> 4 | 3=> 3 | 0=> 0 | n=> n,fun | n=> n⟩
theorem Tryz.contF:Go.Proofs.SlLaysH.n8 Tryz.prog Tryz.contF_ren:= {
 mixed:=by kernel_rfl
 f6:=⟨Tryz.f183.name,by decide,Tryz.func183.trans (congrArg some (by kernel_rfl))⟩
 f8:=⟨Tryz.f152.name,by decide,Tryz.func152.trans (congrArg some (by kernel_rfl))⟩
 t0:=Tryz.underlying0
 a0:=Tryz.isAgg0
 z0:=Tryz.sizeOf0
 v0:=Tryz.zeroValue0
 t3:=Tryz.underlying3
 a3:=Tryz.isAgg3
 z3:=Tryz.sizeOf3
 v3:=Tryz.zeroValue3
 t4:=Tryz.underlying4
 a4:=Tryz.isAgg4
 z4:=Tryz.sizeOf4
 v4:=Tryz.zeroValue4
 t22:=Tryz.underlying69
 a22:=Tryz.isAgg69
 z22:=Tryz.sizeOf69
 v22:=Tryz.zeroValue69
 a23:=Tryz.isAgg26
 z23:=Tryz.sizeOf26
 t25:=Tryz.underlying44
 a25:=Tryz.isAgg44
 z25:=Tryz.sizeOf44
 v25:=Tryz.zeroValue44}
end Go.Proofs
namespace Go.Proofs.YtgmangikcfakgaaGreatDoor
open Go.RowKit Sh Jt Js
namespace Js
theorem qr4:∀l,Lib.trimLeftS l [32,9,10,13]=skip l
 | []=> rfl
 | a::r=> by
  have ih:=qr4 r
  unfold Lib.trimLeftS at*
  rw [skip,List.dropWhile_cons];by_cases h:a=32∨a=9∨a=10∨a=13
  ·rw [if_pos h,if_pos (by rcases h with rfl | rfl | rfl | rfl <;> decide),ih]
  ·rw [if_neg h,if_neg]
   intro h2;simp only [List.contains_eq_mem,List.mem_cons,List.not_mem_nil,or_false,decide_eq_true_eq]at h2
   exact h h2
theorem qba:∀l:List UInt8,(skip l).length≤l.length
 | []=> Nat.le_refl _
 | a::r=> by
  have:=qba r
  rw [skip];split
  ·rw [List.length_cons];omega
  ·exact Nat.le_refl _
theorem qa3:∀l:List UInt8,skip (skip l)=skip l
 | []=> rfl
 | a::r=> by
  rw [skip];split
  ·exact qa3 r
  next h=> rw [skip,if_neg h]
theorem qbg (l:List UInt8) (k:Nat):(sb l).extract k l.length=sb (l.drop k):=by
 have:=qcj l k l.length
 rw [List.take_length]at this
 exact this
theorem qkc (l:List UInt8) (k:Nat):(sb l).extract 0 k=sb (l.take k):=by
 have:=qcj l 0 k
 rw [List.drop_zero]at this
 exact this
end Js
theorem q0g (s:List UInt8) (w:World):Calls Tryz.prog 95 #[.string (sb s), .string ⟨#[32,9,10,13]⟩] w fun e w'=> e= .returned (.string (sb (skip s)))∧Below w.heap.size w w':=by
 have h:=Any.strings_TrimLeft_laid Tryz.lays161 (by kernel_rfl) (sb s) ⟨#[32,9,10,13]⟩ w (by decide) (ascii_of_all (by decide))
 refine Calls.mono h ?_
 rintro e w' ⟨rfl,B⟩
 refine ⟨?_,B⟩
 rw [qiy,show (⟨#[32,9,10,13]⟩:ByteArray).data.toList=[32,9,10,13]from rfl,qr4]
 rfl
theorem qzj (s:List UInt8) (hs:s.length≤281474976710656) (w:World):Calls Tryz.prog 165 #[.string (sb s)] w fun e w'=> e= .returned (.string (sb s))∧Below w.heap.size w w':=by
 have HC:=Qh (Tryz.stringslite_Clone (sb s) w (by rw [qag];exact hs))
 generalize sb s=S at*
 go_enter Tryz.func165,Tryz.ntmps165
 go_wp2_with fail
 refine HC.out.mono ?_
 rintro e w1 ⟨rfl,B1⟩
 have HB1:=Qh B1
 clear B1
 go_wp2_with fail
 go_ret
 exact ⟨rfl,HB1.out⟩
theorem OwnVals.block {w:World} {B:Nat} {v:Value} {L:List V} (h:OwnVals w B v L) {k:Nat} (hk:v.ownBlock=some k):B≤k∧k < w.heap.size:=by
 obtain ⟨A,c,rfl,_,_,h2,_⟩:=h.vals
 cases A with
 | none=> cases hk
 | some a=>
  obtain ⟨g,rfl,h3,h4⟩:=h2 _ rfl
  obtain rfl:g=k:=Option.some.inj hk
  exact ⟨h3,h4⟩
structure RSt (w:World) (b:Nat) (s:List UInt8) (v:Value) (L:List V) (d:Int):Prop where
 row:Row w b 86 [.string (sb s),v, .int .i64 d]
 own:OwnVals w (b+1) v L
structure Stp (w w':World) (b:Nat) (v v':Value):Prop where
 kept:Kept w w' (fun k=> k=b∨v.ownBlock=some k)
 fresh:∀k,v'.ownBlock=some k→v.ownBlock=some k∨w.heap.size≤k
theorem Stp.refl (w:World) (b:Nat) (v:Value):Stp w w b v v:=⟨Kept.refl _ _,fun _ h=> .inl h⟩
theorem Stp.trans {w w1 w2:World} {b:Nat} {v v1 v2:Value} (h:Stp w w1 b v v1) (k:Stp w1 w2 b v1 v2):Stp w w2 b v v2:=by
 refine ⟨⟨k.kept.os.trans h.kept.os,k.kept.tape.trans h.kept.tape,k.kept.output.trans h.kept.output,Nat.le_trans h.kept.size k.kept.size,fun i hi hn=> ?_⟩,fun i hi=> ?_⟩
 ·refine (k.kept.block i (Nat.lt_of_lt_of_le hi h.kept.size) (fun hh=> ?_)).trans (h.kept.block i hi hn)
  rcases hh with hh | hh
  ·exact hn (.inl hh)
  ·rcases h.fresh i hh with h2 | h2
   ·exact hn (.inr h2)
   ·omega
 ·rcases k.fresh i hi with h2 | h2
  ·exact h.fresh i h2
  ·exact .inr (Nat.le_trans h.kept.size h2)
theorem Stp.of_below {w w':World} (h:Below w.heap.size w w') (b:Nat) (v:Value):Stp w w' b v v:=⟨Kept.of_below h (fun _ hk _=> hk),fun _ h=> .inl h⟩
theorem Stp.size {w w':World} {b:Nat} {v v':Value} (h:Stp w w' b v v'):w.heap.size≤w'.heap.size:=h.kept.size
theorem Stp.below {w w':World} {b:Nat} {v v':Value} (h:Stp w w' b v v') {B:Nat} (hB:B≤b) (hs:B≤w.heap.size) (ho:∀k,v.ownBlock=some k→B≤k):Below B w w':=h.kept.below hs fun k hk hh=> by
 rcases hh with rfl | hh
 ·omega
 ·have:=ho k hh
  omega
section
variable {w w1:World} {b:Nat} {s:List UInt8} {v:Value} {L:List V} {d:Int}
theorem RSt.lt (h:RSt w b s v L d):b < w.heap.size:=h.row.lt
theorem RSt.below (h:RSt w b s v L d) (hb:Below w.heap.size w w1):RSt w1 b s v L d:=⟨h.row.below hb h.row.lt,h.own.below hb⟩
theorem RSt.kept {S:Nat→Prop} (h:RSt w b s v L d) (k:Kept w w1 S) (hb:¬S b) (ho:∀k,v.ownBlock=some k→¬S k):RSt w1 b s v L d:=⟨k.row h.row hb,h.own.kept k ho⟩
theorem RSt.other (h:RSt w b s v L d) {i:Nat} {x:Value}:OwnVals (w.setCell ⟨b,i,none⟩ x) (b+1) v L:=
 h.own.kept ((Kept.refl w (·=b)).setCell (a:=⟨b,i,none⟩) (.inr rfl) x) (fun k hk e=> by
  have:=(h.own.block hk).1
  omega)
theorem RSt.rest (h:RSt w b s v L d) (B1:Below w.heap.size w w1) (s':List UInt8):RSt (w1.setCell ⟨b,0,none⟩ (.string (sb s'))) b s' v L d∧Stp w (w1.setCell ⟨b,0,none⟩ (.string (sb s'))) b v v:=by
 have h1:=h.below B1
 exact ⟨⟨h1.row.set 0 _,h1.other⟩,⟨(Stp.of_below B1 b v).kept.setCell (a:=⟨b,0,none⟩) (.inr (.inl rfl)) _,fun _ h=> .inl h⟩⟩
theorem RSt.deep (h:RSt w b s v L d) (d':Int):RSt (w.setCell ⟨b,2,none⟩ (.int .i64 d')) b s v L d'∧Stp w (w.setCell ⟨b,2,none⟩ (.int .i64 d')) b v v:=
 ⟨⟨h.row.set 2 _,h.other⟩,⟨(Kept.refl _ _).setCell (a:=⟨b,2,none⟩) (.inr (.inl rfl)) _,fun _ h=> .inl h⟩⟩
theorem RSt.cells (h:RSt w b s v L d):w.cell? ⟨b,0,none⟩=some (.string (sb s))∧w.cell? ⟨b,1,none⟩=some v∧w.cell? ⟨b,2,none⟩=some (.int .i64 d):=
 ⟨h.row.cell rfl,h.row.cell rfl,h.row.cell rfl⟩
end
theorem qi0 (w:World) (b:Nat) (s:List UInt8) (v:Value) (L:List V) (d:Int) (h:RSt w b s v L d):
  Calls Tryz.prog 60 #[.pointer (some ⟨b,0,none⟩)] w fun e w'=> e= .returned (.tuple #[])∧Hid (RSt w' b (skip s) v L d∧Stp w w' b v v):=by
 have HT:=Qh (q0g s w)
 have HR:=Qh h
 obtain ⟨c0,_,_⟩:=h.cells
 have HX:=Qh (fun w1 B1=> h.rest (w1:=w1) B1 (skip s))
 clear h
 generalize sb s=S at*
 generalize sb (skip s)=S2 at*
 go_enter Tryz.func60,Tryz.ntmps60
 go_wp2_with fail
 refine HT.out.mono ?_
 rintro e w1 ⟨rfl,B1⟩
 have hf:=(HR.out.below B1).row.frozen 0
 obtain ⟨c1,_,_⟩:=(HR.out.below B1).cells
 have HY:=Qh (HX.out w1 B1)
 clear B1 HX c0
 go_wp2_with fail
 go_end0
 exact ⟨rfl,HY⟩
namespace Js
def kindN (z:Int):Option Int:=if z=110 then some 0 else if z=116 then some 1 else if z=102 then some 2 else if z=45∨(48≤z∧z≤57) then some 3 else if z=34 then some 4 else if z=91 then some 5 else if z=123 then some 6 else none
def kindF:List UInt8→Option Int
 | []=> none
 | a::_=> kindN (n8 a)
def kindV:Option Int→Value
 | some k=> .tuple #[.int .i64 k, .bool true]
 | none=> .tuple #[.int .i64 0, .bool false]
end Js
theorem q1j (w:World) (b:Nat) (s:List UInt8) (v:Value) (L:List V) (d:Int) (h:RSt w b s v L d):
  Calls Tryz.prog 93 #[.pointer (some ⟨b,0,none⟩)] w fun e w'=> e= .returned (kindV (kindF (skip s)))∧Hid (RSt w' b (skip s) v L d∧Stp w w' b v v):=by
 have HS:=Qh (qi0 w b s v L d h)
 clear h
 generalize hu:skip s=u at*
 clear hu
 match u with
 | []=>
  have h1:(sb []).toList=[]:=qab _
  have h2:(sb []).toList.isEmpty=true:=by rw [h1];rfl
  go_enter Tryz.func93,Tryz.ntmps93
  go_wp2_with fail;refine HS.out.mono ?_
  rintro e w1 ⟨rfl,HX⟩;obtain ⟨c0,_,_⟩:=HX.out.1.cells
  go_wp2_with fail;go_ret2;exact ⟨rfl,HX⟩
 | a::r=>
  have h1:¬(sb (a::r)).toList=[]:=by rw [qab];exact List.cons_ne_nil _ _
  have h2:(sb (a::r)).toList.isEmpty=false:=by rw [qab];rfl
  have hix:∀W,(Instr.index 9 (.string (sb (a::r))) (.int .i64 0)).run Tryz.prog W= .ok (.int .u8 (n8 a)) W:=fun W=> qam (a::r) 0 (by simp) W
  have HC:=Qh (fun w1 (hx:RSt w1 b (a::r) v L d)=> hx.cells.1)
  show Calls _ _ _ _ fun e w'=> e= .returned (kindV (kindN (n8 a)))∧_
  generalize n8 a=z at*;generalize sb (a::r)=S at*;go_enter Tryz.func93,Tryz.ntmps93
  go_wp2_with fail;refine HS.out.mono ?_
  rintro e w1 ⟨rfl,HX⟩;have c0:=HC.out w1 HX.out.1
  clear HC HS;go_wp2_with fail;all_goals (go_ret2;simp only [beq_iff_eq,beq_eq_false_iff_ne,ne_eq]at*;refine ⟨?_,HX⟩;unfold kindN;(repeat' split) <;> first | rfl | omega)
def Js.textV:Option (List UInt8×Nat)→Value
 | some p=> .tuple #[.string (sb p.1), .int .i64 0]
 | none=> .tuple #[.string ⟨#[]⟩, .int .i64 3]
def Js.textR (s:List UInt8):Option (List UInt8×Nat)→List UInt8
 | some p=> s.drop p.2
 | none=> s
theorem qid {s:List UInt8} {p:List UInt8×Nat} (h:unqF s=some p):p.2≤s.length∧2≤p.2:=by
 obtain ⟨x,k⟩:=p
 have:=qfe h
 exact ⟨this.2.2.1,this.2.1⟩
theorem qso (w:World) (b:Nat) (s:List UInt8) (v:Value) (L:List V) (d:Int) (h:RSt w b s v L d) (hs:s.length≤1000000000) (hE:ErrOk w):
  Calls Tryz.prog 128 #[.pointer (some ⟨b,0,none⟩)] w fun e w'=> e= .returned (textV (unqF s))∧Hid (RSt w' b (textR s (unqF s)) v L d∧Stp w w' b v v):=by
 have HU:=Qh (qs5 w s hs hE)
 have HR:=Qh h
 obtain ⟨c0,_,_⟩:=h.cells
 have hsz:=qag s
 clear hE
 cases hu:unqF s with
 | none=>
  rw [hu]at HU
  have HX:=Qh (fun w1 B1=> And.intro (h.below (w1:=w1) B1) (Stp.of_below B1 b v))
  unfold unqV at HU;unfold textV;show Calls _ _ _ _ fun e w'=> _∧Hid (RSt w' b s v L d∧_)
  clear h hu;generalize sb s=S at*;go_enter Tryz.func128,Tryz.ntmps128
  go_wp2_with fail;refine HU.out.mono ?_
  rintro e w1 ⟨rfl,B1⟩;have HY:=Qh (HX.out w1 B1)
  clear B1 HX c0;go_wp2_with fail;go_ret2;exact ⟨rfl,HY⟩
 | some p=>
  rw [hu]at HU
  obtain ⟨x,n⟩:=p
  have hn:=(qid hu).1
  dsimp only at hn
  have HX:=Qh (fun w1 B1=> h.rest (w1:=w1) B1 (s.drop n))
  have hcut:=qbg s n
  unfold unqV at HU;dsimp only at HU
  unfold textV;show Calls _ _ _ _ fun e w'=> _∧Hid (RSt w' b (s.drop n) v L d∧_)
  dsimp only
  clear h hu;generalize sb s=S at*;generalize sb (s.drop n)=S2 at*;generalize sb x=X at*;go_enter Tryz.func128,Tryz.ntmps128
  go_wp2_with fail;refine HU.out.mono ?_
  rintro e w1 ⟨rfl,B1⟩;have hf:=(HR.out.below B1).row.frozen 0
  have c1:w1.cell? ⟨b,0,none⟩=some (.string S):=(qad B1).cell c0 (fun h=> h)
  have HY:=Qh (HX.out w1 B1)
  clear B1 HX c0;go_wp2_with fail;go_ret2;exact ⟨rfl,HY⟩
def Js.numV (s:List UInt8):Value:=if numF s=0 then .tuple #[.string ⟨#[]⟩, .int .i64 3] else .tuple #[.string (sb (s.take (numF s))), .int .i64 0]
theorem qxz (w:World) (b:Nat) (s:List UInt8) (v:Value) (L:List V) (d:Int) (h:RSt w b s v L d) (hs:s.length≤1000000000):
  Calls Tryz.prog 127 #[.pointer (some ⟨b,0,none⟩)] w fun e w'=> e= .returned (numV s)∧Hid (RSt w' b (s.drop (numF s)) v L d∧Stp w w' b v v):=by
 have HU:=Qh (qm7 w s hs)
 have HR:=Qh h
 obtain ⟨c0,_,_⟩:=h.cells
 have hsz:=qag s
 have hn:=qkw s
 by_cases h0:numF s=0
 ·have HX:=Qh (fun w1 B1=> And.intro (h.below (w1:=w1) B1) (Stp.of_below B1 b v))
  unfold numV;rw [if_pos h0];rw [h0]at HU
  rw [h0,List.drop_zero];clear h h0 hn;generalize sb s=S at*;go_enter Tryz.func127,Tryz.ntmps127
  go_wp2_with fail;refine HU.out.mono ?_
  rintro e w1 ⟨rfl,B1⟩;have HY:=Qh (HX.out w1 B1)
  clear B1 HX c0;go_wp2_with fail;go_ret2;exact ⟨rfl,HY⟩
 ·unfold numV
  rw [if_neg h0];have HC:=Qh (fun W=> qzj (s.take (numF s)) (by rw [List.length_take];omega) W)
  have hcut:=qbg s (numF s)
  have hcut2:=qkc s (numF s)
  have HX:=Qh (fun w1 B1=> h.rest (w1:=w1) B1 (s.drop (numF s)))
  generalize numF s=n at*;have h0':¬(n:Int)=0:=by omega
  clear h h0;generalize sb s=S at*;generalize sb (s.drop n)=S2 at*;generalize sb (s.take n)=S3 at*;go_enter Tryz.func127,Tryz.ntmps127
  go_wp2_with fail;refine HU.out.mono ?_
  rintro e w1 ⟨rfl,B1⟩;have c1:w1.cell? ⟨b,0,none⟩=some (.string S):=(qad B1).cell c0 (fun h=> h)
  have HB1:=Qh B1
  clear B1 c0;go_wp2_with fail;refine (HC.out _).mono ?_
  rintro e w2 ⟨rfl,B2⟩;have B3:=HB1.out.trans (B2.mono HB1.out.size)
  have hf:=(HR.out.below B3).row.frozen 0
  have c2:w2.cell? ⟨b,0,none⟩=some (.string S):=(qad B2).cell c1 (fun h=> h)
  have HY:=Qh (HX.out w2 B3)
  clear B2 B3 HB1 HX c1 HC;go_wp2_with fail;go_ret2;exact ⟨rfl,HY⟩
theorem qga (w:World) (b:Nat) (s p:List UInt8) (v:Value) (L:List V) (d:Int) (h:RSt w b s v L d):
  Calls Tryz.prog 132 #[.pointer (some ⟨b,0,none⟩), .string (sb p)] w fun e w'=> e= .returned (.bool (p.isPrefixOf (skip s)))∧
   Hid (RSt w' b (if p.isPrefixOf (skip s)=true then (skip s).drop p.length else skip s) v L d∧Stp w w' b v v):=by
 have HS:=Qh (qi0 w b s v L d h)
 have HC:=Qh (fun W=> qlr (skip s) p W)
 generalize p.isPrefixOf (skip s)=q at*
 generalize (if q=true then (skip s).drop p.length else skip s)=u at*
 have HX:=Qh (fun w1 (hx:RSt w1 b (skip s) v L d)=> hx.rest (Below.refl _ _) u)
 have HCL:=Qh (fun w1 (hx:RSt w1 b (skip s) v L d)=> And.intro hx.cells.1 (hx.row.frozen 0))
 clear h
 generalize sb (skip s)=S at*
 generalize sb u=U at*
 generalize sb p=Q at*
 go_enter Tryz.func132,Tryz.ntmps132
 go_wp2_with fail
 refine HS.out.mono ?_
 rintro e w1 ⟨rfl,HY⟩
 obtain ⟨c0,hf⟩:=HCL.out w1 HY.out.1
 have HZ:=Qh (HX.out w1 HY.out.1)
 clear HCL HX HS
 go_wp2_with fail
 refine (HC.out _).mono ?_
 rintro e w2 ⟨rfl,rfl⟩
 clear HC
 go_wp2_with fail
 go_ret
 exact ⟨rfl,Qh ⟨HZ.out.1,HY.out.2.trans HZ.out.2⟩⟩
end Go.Proofs.YtgmangikcfakgaaGreatDoor
namespace Go.Proofs.YtgmangikcfakgaaGreatDoor
open Go Sh
namespace Js
open Jt
inductive CR where
 | ok (t:List UInt8) (n:Nat) (l:List V) (r:List UInt8)
 | err (e:Nat)
def toC:Res→CR
 | .ok n l r=> .ok [] n l r
 | .err e=> .err e
def grpF (K:List UInt8→Res) (c:UInt8) (s:List UInt8):CR:=match skip s with
 | []=> toC (K s)
 | a::r=> if a=c then .ok [] 0 [] r else toC (K s)
def wordN (k:Int):List UInt8:=if k=0 then [110,117,108,108] else if k=1 then [116,114,117,101] else [102,97,108,115,101]
def strC (s:List UInt8):CR:=match unqF s with
 | some p=> .ok p.1 0 [] (s.drop p.2)
 | none=> .err 3
def numC (s:List UInt8):CR:=if numF s=0 then .err 3 else .ok (s.take (numF s)) 0 [] (s.drop (numF s))
def wordC (k:Int) (s:List UInt8):CR:=if (wordN k).isPrefixOf s=true then .ok [] 0 [] (s.drop (wordN k).length) else .err 3
def contF (K:Bool→List UInt8→Res) (k:Int) (s:List UInt8):CR:=
 if k=3 then numC s else if k=4 then strC s else if k=5 then grpF (K false) 93 (s.drop 1) else if k=6 then grpF (K true) 125 (s.drop 1) else wordC k s
def toR (k:Int) (key:List UInt8):CR→Res
 | .ok t n l r=> .ok 1 (⟨k,key,t,n⟩::l) r
 | .err e=> .err e
def valR (K:Bool→List UInt8→Res) (key:List UInt8) (d c:Nat) (s:List UInt8):Option Int→Res
 | none=> .err 3
 | some k=> if 50≤d∨5000≤c then .err 2 else toR k key (contF K k s)
theorem qsj (k:Int) (key:List UInt8) (x:Res):toR k key (toC x)=x.bind fun n l r=> .ok 1 (⟨k,key,[],n⟩::l) r:=by cases x <;> rfl
theorem qsu (k:Int) (key:List UInt8) (K:List UInt8→Res) (c:UInt8) (s:List UInt8):toR k key (grpF K c s)=groupF K k key c s:=by
 unfold grpF groupF
 cases skip s with
 | nil=> exact qsj _ _ _
 | cons a r=>
  dsimp only
  by_cases h:a=c
  ·rw [if_pos h,if_pos h]
   rfl
  ·rw [if_neg h,if_neg h]
   exact qsj _ _ _
theorem q1f (key s:List UInt8):toR 4 key (strC s)=stringF key s:=by
 unfold strC stringF
 cases unqF s <;> rfl
theorem q1e (key s:List UInt8):toR 3 key (numC s)=numberF key s:=by
 unfold numC numberF
 by_cases h:numF s=0
 ·rw [if_pos h,if_pos h];rfl
 ·rw [if_neg h,if_neg h];rfl
theorem qjr {k:Int} {w:List UInt8} (h:wordN k=w) (key s:List UInt8):toR k key (wordC k s)=wordF w s ⟨k,key,[],0⟩:=by
 unfold wordC wordF
 rw [h]
 by_cases h2:w.isPrefixOf s=true
 ·rw [if_pos h2,if_pos h2];rfl
 ·rw [if_neg h2,if_neg h2];rfl
theorem qk2 (K:Bool→List UInt8→Res) (key:List UInt8) (d c:Nat) (s:List UInt8):valW K key d c s=valR K key d c (skip s) (kindF (skip s)):=by
 unfold valW
 cases skip s with
 | nil=> rfl
 | cons a r=>
  show _=valR K key d c (a::r) (kindN (n8 a))
  dsimp only
  have one:∀ {k:Int} {X:Res},kindN (n8 a)=some k→starts a=true→X=toR k key (contF K k (a::r))→(if starts a=false then Res.err 3 else if 50≤d∨5000≤c then .err 2 else X)=valR K key d c (a::r) (kindN (n8 a)):=fun h1 h2 h3=> by
   rw [h1,if_neg (by rw [h2];decide),h3]
   rfl
  by_cases h1:a=110
  ·subst h1
   exact one rfl rfl (qjr (k:=0) rfl key _).symm
  by_cases h2:a=116
  ·subst h2
   exact one rfl rfl (qjr (k:=1) rfl key _).symm
  by_cases h3:a=102
  ·subst h3
   exact one rfl rfl (qjr (k:=2) rfl key _).symm
  by_cases h4:a=34
  ·subst h4
   exact one rfl rfl (q1f key _).symm
  by_cases h5:a=91
  ·subst h5
   exact one rfl rfl (qsu 5 key _ _ _).symm
  by_cases h6:a=123
  ·subst h6
   exact one rfl rfl (qsu 6 key _ _ _).symm
  have hne:∀z:UInt8,a≠z→n8 a≠n8 z:=fun z h e=> h (n8_is e)
  have g1:n8 a≠110:=hne 110 h1
  have g2:n8 a≠116:=hne 116 h2
  have g3:n8 a≠102:=hne 102 h3
  have g4:n8 a≠34:=hne 34 h4
  have g5:n8 a≠91:=hne 91 h5
  have g6:n8 a≠123:=hne 123 h6
  by_cases h7:a=45∨isD a=true
  ·have hk:kindN (n8 a)=some 3:=by
    have h8:n8 a=45∨48≤n8 a∧n8 a≤57:=by
     rcases h7 with rfl | h7
     ·exact .inl rfl
     ·unfold isD at h7
      rw [Bool.and_eq_true,decide_eq_true_iff,decide_eq_true_iff]at h7
      unfold n8;omega
    unfold kindN;rw [if_neg g1,if_neg g2,if_neg g3,if_pos h8]
   have hst:starts a=true:=by
    unfold starts;rcases h7 with rfl | h7
    ·rfl
    ·rw [h7,Bool.or_true]
   rw [if_neg h1,if_neg h2,if_neg h3,if_neg h4,if_neg h5,if_neg h6];exact one hk hst (q1e key _).symm
  ·have hd:isD a=false:=Bool.eq_false_iff.2 fun h=> h7 (.inr h)
   have hk:kindN (n8 a)=none:=by
    have g7:n8 a≠45:=hne 45 fun h=> h7 (.inl h)
    have g8:¬(n8 a=45∨48≤n8 a∧n8 a≤57):=by
     rintro (h | h)
     ·exact g7 h
     ·refine h7 (.inr ?_)
      unfold isD;unfold n8 at h;rw [Bool.and_eq_true,decide_eq_true_iff,decide_eq_true_iff];omega
    unfold kindN;rw [if_neg g1,if_neg g2,if_neg g3,if_neg g8,if_neg g4,if_neg g5,if_neg g6]
   have hst:starts a=false:=by
    unfold starts;rw [hd,Bool.or_false];exact decide_eq_false fun h=> by
     rcases h with h | h | h | h | h | h | h
     ·exact h1 h
     ·exact h2 h
     ·exact h3 h
     ·exact h4 h
     ·exact h5 h
     ·exact h6 h
     ·exact h7 (.inl h)
   rw [if_pos hst,hk];rfl
theorem qxb (K:Bool→List UInt8→Res) (key:List UInt8) (d c:Nat) (s:List UInt8):valW K key d c (skip s)=valW K key d c s:=by rw [qk2,qk2,qa3]
theorem qi2 {K:Bool→List UInt8→Res} {key:List UInt8} {d c:Nat} {s:List UInt8} {n:Nat} {l:List V} {r:List UInt8} (h:valW K key d c s= .ok n l r):
  n=1∧keyOf l=key∧0 < l.length∧∃k t m l2,kindF (skip s)=some k∧¬(50≤d∨5000≤c)∧contF K k (skip s)= .ok t m l2 r∧l=⟨k,key,t,m⟩::l2:=by
 rw [qk2]at h
 cases hk:kindF (skip s)with
 | none=> rw [hk]at h;cases h
 | some k=>
  rw [hk]at h
  unfold valR at h;dsimp only at h
  split at h
  ·cases h
  next hf=>
   cases hc:contF K k (skip s)with
   | err e=> rw [hc]at h;cases h
   | ok t m l2 r2=>
    rw [hc]at h
    obtain ⟨h1,h2,h3⟩:=qaz h
    subst h1 h2 h3;exact ⟨rfl,rfl,by rw [List.length_cons];omega,k,t,m,l2,rfl,hf,hc,rfl⟩
theorem qyk {k:Int} {s:List UInt8} {t:List UInt8} {n:Nat} {l:List V} {r:List UInt8} (h:wordC k s= .ok t n l r):r.length < s.length:=by
 unfold wordC at h
 split at h
 next hp=>
  injection h with _ _ _ h
  subst h;have h4:4≤(wordN k).length:=by
   unfold wordN;split
   ·decide
   ·split <;> decide
  have:=(List.isPrefixOf_iff_prefix.1 hp).length_le
  rw [List.length_drop];omega
 ·cases h
theorem q0r {K:Bool→List UInt8→Res} {k:Int} {s:List UInt8} {t:List UInt8} {n:Nat} {l:List V} {r:List UInt8} (hK:∀o s n l r,K o s= .ok n l r→r.length≤s.length) (hs:s≠[]) (h:contF K k s= .ok t n l r):r.length < s.length:=by
 have hpos:0 < s.length:=List.length_pos_iff.2 hs
 have grp:∀o c,grpF (K o) c (s.drop 1)= .ok t n l r→r.length < s.length:=fun o c h=> by
  unfold grpF at h;have inner:toC (K o (s.drop 1))= .ok t n l r→r.length < s.length:=fun h=> by
   cases hx:K o (s.drop 1)with
   | err e=> rw [hx]at h;cases h
   | ok n2 l2 r2=>
    rw [hx]at h
    injection h with _ _ _ h
    subst h;have:=hK _ _ _ _ _ hx
    rw [List.length_drop]at this
    omega
  split at h
  ·exact inner h
  next a u hsk=>
   split at h
   ·injection h with _ _ _ h
    subst h;have h1:=qba (s.drop 1)
    rw [hsk,List.length_cons,List.length_drop]at h1
    omega
   ·exact inner h
 unfold contF at h
 split at h
 ·unfold numC at h
  split at h
  ·cases h
  next h0=>
   injection h with _ _ _ h
   subst h;rw [List.length_drop];omega
 ·split at h
  ·unfold strC at h
   split at h
   next p hp=>
    injection h with _ _ _ h
    subst h;have:=qid hp
    rw [List.length_drop];omega
   ·cases h
  ·split at h
   ·exact grp _ _ h
   ·split at h
    ·exact grp _ _ h
    ·exact qyk h
theorem qll {K:Bool→List UInt8→Res} {key:List UInt8} {d c:Nat} {s:List UInt8} {n:Nat} {l:List V} {r:List UInt8} (hK:∀o s n l r,K o s= .ok n l r→r.length≤s.length) (h:valW K key d c s= .ok n l r):r.length < s.length:=by
 obtain ⟨_,_,_,k,t,m,l2,hk,_,hc,_⟩:=qi2 h
 have hs:skip s≠[]:=fun e=> by rw [e]at hk;cases hk
 have:=q0r hK hs hc
 have:=qba s
 omega
theorem qzw {ks:List (List UInt8)} {s:List UInt8} {f:List UInt8→List UInt8→Res} {n:Nat} {l:List V} {r:List UInt8} (h:nameF ks s f= .ok n l r):∃key s1,f key s1= .ok n l r∧s1.length < s.length:=by
 unfold nameF at h
 split at h
 ·cases h
 next p hp=>
  split at h
  ·cases h
  ·split at h
   ·cases h
   next a u hsk=>
    split at h
    ·refine ⟨_,_,h, ?_⟩
     have h1:=qba ((skip s).drop p.2)
     have h2:=qba s
     rw [hsk,List.length_cons,List.length_drop]at h1
     omega
    ·cases h
theorem qz5 {o:Bool} {s:List UInt8} {n:Nat} {l:List V} {f:List UInt8→Res} {m:Nat} {l2:List V} {r:List UInt8} (hf:∀s n l r,f s= .ok n l r→r.length≤s.length) (h:nextF o s n l f= .ok m l2 r):r.length≤s.length:=by
 unfold nextF at h
 split at h
 ·cases h
 next a u hsk=>
  have h1:=qba s
  rw [hsk,List.length_cons]at h1
  split at h
  ·obtain ⟨_,_,rfl⟩:=qaz h
   omega
  ·split at h
   ·obtain ⟨n1,l1,r1,hx,h⟩:=bind_some h
    obtain ⟨_,_,rfl⟩:=qaz h
    have:=hf _ _ _ _ hx
    omega
   ·cases h
def oneF (g:Nat) (o:Bool) (d c:Nat) (ks:List (List UInt8)) (s:List UInt8):Res:=
 if o=true then nameF ks s fun key s1=> valW (fun o2=> kids g o2 (d+1) (c+1) []) key d c s1 else valW (fun o2=> kids g o2 (d+1) (c+1) []) [] d c s
theorem qxj (ks:List (List UInt8)) (s:List UInt8) (f:List UInt8→List UInt8→Res) (F:Nat→List V→List UInt8→Res):(nameF ks s f).bind F=nameF ks s fun key s1=> (f key s1).bind F:=by
 unfold nameF
 cases unqF (skip s)with
 | none=> rfl
 | some p=>
  dsimp only
  by_cases h:p.1∈ks
  ·rw [if_pos h,if_pos h];rfl
  ·rw [if_neg h,if_neg h]
   cases skip ((skip s).drop p.2)with
   | nil=> rfl
   | cons a r=>
    dsimp only
    by_cases h2:a=58
    ·rw [if_pos h2,if_pos h2]
    ·rw [if_neg h2,if_neg h2];rfl
theorem qc3 (g:Nat) (o:Bool) (d c:Nat) (ks:List (List UInt8)) (s:List UInt8):kids (g+1) o d c ks s=(oneF g o d c ks s).bind fun n l r=> nextF o r n l fun r2=> kids g o d (c+l.length) (keyOf l::ks) r2:=by
 have tail:∀key s1,((valW (fun o2=> kids g o2 (d+1) (c+1) []) key d c s1).bind fun n l r=> nextF o r n l fun r2=> kids g o d (c+l.length) (key::ks) r2)=(valW (fun o2=> kids g o2 (d+1) (c+1) []) key d c s1).bind fun n l r=> nextF o r n l fun r2=> kids g o d (c+l.length) (keyOf l::ks) r2:=fun key s1=> by
  cases hx:valW (fun o2=> kids g o2 (d+1) (c+1) []) key d c s1 with
  | err e=> rfl
  | ok n l r=>
   rw [Res.bind_ok,Res.bind_ok,(qi2 hx).2.1]
 unfold oneF
 rw [kids]
 cases o with
 | true=>
  rw [if_pos rfl,if_pos rfl,qxj];congr 1
  funext key s1
  exact tail key s1
 | false=>
  rw [if_neg (by decide),if_neg (by decide)];exact tail [] s
theorem qiu {g:Nat} {o:Bool} {d c:Nat} {ks:List (List UInt8)} {s:List UInt8} {n:Nat} {l:List V} {r:List UInt8} (hK:∀o2 d c ks s n l r,kids g o2 d c ks s= .ok n l r→r.length < s.length) (h:oneF g o d c ks s= .ok n l r):r.length < s.length:=by
 unfold oneF at h
 split at h
 ·obtain ⟨key,s1,h1,h2⟩:=qzw h
  have:=qll (fun o s n l r hx=> Nat.le_of_lt (hK _ _ _ _ _ _ _ _ hx)) h1
  omega
 ·exact qll (fun o s n l r hx=> Nat.le_of_lt (hK _ _ _ _ _ _ _ _ hx)) h
theorem qpw:∀(g:Nat) (o:Bool) (d c:Nat) (ks:List (List UInt8)) (s:List UInt8) (n:Nat) (l:List V) (r:List UInt8),kids g o d c ks s= .ok n l r→r.length < s.length:=by
 intro g
 induction g with
 | zero=> intro o d c ks s n l r h;cases h
 | succ g ih=>
  intro o d c ks s n l r h;rw [qc3]at h
  obtain ⟨n1,l1,r1,hx,h⟩:=bind_some h
  have h1:=qiu (fun o2 d c ks s n l r hk=> ih _ _ _ _ _ _ _ _ hk) hx
  have:=qz5 (fun s n l r hk=> Nat.le_of_lt (ih _ _ _ _ _ _ _ _ hk)) h
  omega
theorem qdh {g:Nat} {o:Bool} {d c:Nat} {ks:List (List UInt8)} {s:List UInt8} {n:Nat} {l:List V} {r:List UInt8} (h:oneF g o d c ks s= .ok n l r):n=1∧0 < l.length∧r.length < s.length∧c+l.length≤5000:=by
 have hl:=qiu (fun o2 d c ks s n l r hk=> qpw _ _ _ _ _ _ _ _ _ hk) h
 have hK:KOk (fun o2=> kids g o2 (d+1) (c+1) []) (d+1) (c+1):=fun o2 s n l r hx=> by
  obtain ⟨K,t,h1,_,h3,h4,h5⟩:=qgl _ _ _ _ _ _ _ _ _ hx
  exact ⟨K,t,h1,h3,fun e=> (h4 e).1,h5⟩
 have val:∀key s,validF key=true→valW (fun o2=> kids g o2 (d+1) (c+1) []) key d c s= .ok n l r→n=1∧0 < l.length∧c+l.length≤5000:=fun key s hv hx=> by
  obtain ⟨h1,v,l2,t,rfl,_,_,h5⟩:=qfs (o:=true) hK (fun e=> by cases e) hv hx
  exact ⟨h1,by rw [List.length_cons];omega,h5⟩
 unfold oneF at h
 split at h
 ·obtain ⟨key,s1,h1,hv,_⟩:=qlh h
  obtain ⟨a,b,c⟩:=val key s1 hv h1
  exact ⟨a,b,hl,c⟩
 ·obtain ⟨a,b,c⟩:=val [] s qa8 h
  exact ⟨a,b,hl,c⟩
def headF (g:Nat) (o:Bool) (d c n:Nat) (ks:List (List UInt8)) (l:List V) (s:List UInt8):Res:=
 if n=0 then (match skip s with
  | []=> kids g o d c ks s
  | a::r=> if a=close o then .ok 0 [] r else kids g o d c ks s)
 else nextF o s n l fun r2=> kids g o d c ks r2
theorem qyf (g:Nat) (o:Bool) (d c:Nat) (s:List UInt8):grpF (kids g o d c []) (close o) s=toC (headF g o d c 0 [] [] s):=by
 unfold grpF headF
 rw [if_pos rfl]
 cases skip s with
 | nil=> rfl
 | cons a r=>
  dsimp only
  by_cases h:a=close o
  ·rw [if_pos h,if_pos h];rfl
  ·rw [if_neg h,if_neg h]
theorem qa7 {c:UInt8} {s:List UInt8}:[c].isPrefixOf s=true↔∃r,s=c::r:=by
 match s with
 | []=> exact ⟨fun h=> (by cases h),fun ⟨r,e⟩=> (by cases e)⟩
 | a::r=>
  show (c==a && [].isPrefixOf r)=true↔_
  rw [List.isPrefixOf_nil_left,Bool.and_true,beq_iff_eq];exact ⟨fun e=> ⟨r,by rw [e]⟩,fun ⟨q,e⟩=> (by injection e with e _;exact e.symm)⟩
theorem quj {g:Nat} {o:Bool} {d c n:Nat} {ks:List (List UInt8)} {l:List V} {s:List UInt8} (h:[close o].isPrefixOf (skip s)=true) (h0:n=0→l=[]):headF g o d c n ks l s= .ok n l ((skip s).drop 1):=by
 obtain ⟨r,hr⟩:=qa7.1 h
 unfold headF
 by_cases hn:n=0
 ·subst hn
  rw [if_pos rfl,hr,h0 rfl];dsimp only
  rw [if_pos rfl];rfl
 ·rw [if_neg hn,nextF,hr]
  dsimp only
  rw [if_pos rfl];rfl
theorem qw7 {g:Nat} {o:Bool} {d c n:Nat} {ks:List (List UInt8)} {l:List V} {s:List UInt8} (h:[close o].isPrefixOf (skip s)=false) (h1:[44].isPrefixOf (skip s)=false) (hn:n≠0):headF g o d c n ks l s= .err 3:=by
 unfold headF
 rw [if_neg hn,nextF]
 cases hs:skip s with
 | nil=> rfl
 | cons a r=>
  dsimp only
  rw [hs]at h h1
  rw [if_neg,if_neg]
  ·rintro rfl
   rw [qa7.2 ⟨r,rfl⟩]at h1
   cases h1
  ·rintro rfl
   rw [qa7.2 ⟨r,rfl⟩]at h
   cases h
theorem qti (o:Bool) (r:List UInt8) (n m:Nat) (l l1:List V) (f:List UInt8→Res):((nextF o r m l1 f).bind fun m2 l2 r2=> .ok (n+m2) (l++l2) r2)=nextF o r (n+m) (l++l1) f:=by
 unfold nextF
 cases skip r with
 | nil=> rfl
 | cons a u=>
  dsimp only
  by_cases h:a=close o
  ·rw [if_pos h,if_pos h];rfl
  ·rw [if_neg h,if_neg h]
   by_cases h2:a=44
   ·rw [if_pos h2,if_pos h2]
    cases f u with
    | err e=> rfl
    | ok m3 l3 r3=> rw [Res.bind_ok,Res.bind_ok,Res.bind_ok,Nat.add_assoc,List.append_assoc]
   ·rw [if_neg h2,if_neg h2];rfl
theorem qqw (g:Nat) (o:Bool) (d c:Nat) (ks:List (List UInt8)) (s:List UInt8):oneF g o d c ks (skip s)=oneF g o d c ks s:=by
 unfold oneF
 rw [qxb]
 unfold nameF
 rw [qa3]
def upto (n:Nat) (s:List UInt8):List UInt8:=if n=0 then skip s else (skip s).drop 1
def stepF (g:Nat) (o:Bool) (d c n:Nat) (ks:List (List UInt8)) (l:List V):Res→Res
 | .ok _ l1 r=> headF g o d (c+l1.length) (n+1) (keyOf l1::ks) (l++l1) r
 | .err e=> .err e
theorem qmh {g:Nat} {o:Bool} {d c n:Nat} {ks:List (List UInt8)} {l:List V} {s:List UInt8} (h:[close o].isPrefixOf (skip s)=false) (h1:n≠0→[44].isPrefixOf (skip s)=true) (h0:n=0→l=[]):
  headF (g+1) o d c n ks l s=stepF g o d c n ks l (oneF g o d c ks (upto n s)):=by
 by_cases hn:n=0
 ·subst hn
  obtain rfl:=h0 rfl
  have e:headF (g+1) o d c 0 ks [] s=kids (g+1) o d c ks s:=by
   unfold headF;rw [if_pos rfl];split
   ·rfl
   next a r hs=>
    rw [if_neg];rintro rfl;rw [hs,qa7.2 ⟨r,rfl⟩]at h
    cases h
  rw [e,upto,if_pos rfl,qqw,qc3];cases hx:oneF g o d c ks s with
  | err e=> rfl
  | ok m l1 r=>
   obtain ⟨rfl,_⟩:=qdh hx
   show _=headF g o d (c+l1.length) (0+1) (keyOf l1::ks) ([]++l1) r
   rw [Res.bind_ok,List.nil_append];unfold headF;rw [if_neg (by omega)]
 ·obtain ⟨r,hr⟩:=qa7.1 (h1 hn)
  have e:headF (g+1) o d c n ks l s=(kids (g+1) o d c ks r).bind fun m l2 r2=> .ok (n+m) (l++l2) r2:=by
   unfold headF;rw [if_neg hn,nextF,hr];dsimp only
   rw [if_neg,if_pos rfl];rintro hc;rw [hr,hc,qa7.2 ⟨r,rfl⟩]at h
   cases h
  rw [e,upto,if_neg hn,hr,qc3,List.drop_one,List.tail_cons];cases hx:oneF g o d c ks r with
  | err e=> rfl
  | ok m l1 r1=>
   obtain ⟨rfl,_⟩:=qdh hx
   show _=headF g o d (c+l1.length) (n+1) (keyOf l1::ks) (l++l1) r1
   rw [Res.bind_ok,qti];unfold headF;rw [if_neg (by omega)]
theorem qgp (n:Nat) (s:List UInt8):(upto n s).length≤s.length:=by
 have:=qba s
 unfold upto
 split
 ·exact this
 ·rw [List.length_drop];omega
end Js
end Go.Proofs.YtgmangikcfakgaaGreatDoor
