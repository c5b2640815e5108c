import Derived.Ground.NamesProg
import Derived.Ground.SlgfProg
import Derived.Shelf.Unicode.ValidAny
import Derived.Shelf.SlicesE.IndexFunc
import Derived.Test.YtgmangikcfakgaaGreatDoorProg
import Derived.Test.YtgmangikcfakgaaGreatDoorPL13
import Derived.Test.YtgmangikcfakgaaGreatDoorPL15
import Derived.Test.YtgmangikcfakgaaGreatDoorPL16
import Derived.Shelf.Strings.SlTrimAscii
namespace Go.Proofs
open Go.Shelf
def Tryz.laysV_ren:Go.Shelf.Ren:=⟨fun | 196=> 146 | 259=> 177 | n=> n,fun | 9=> 9 | 4=> 4 | 3=> 3 | 5=> 5 | 12=> 12 | 119=> 193 | 0=> 0 | 46=> 141 | 139=> 196 | 138=> 195 | 53=> 182 | n=> n,fun | 3=> 2 | 4=> 3 | n=> n⟩
theorem Tryz.laysV:Go.Proofs.Lays.n196 Tryz.prog Tryz.laysV_ren:= {
 mixed:=by kernel_rfl
 f196:=Tryz.func146.trans (congrArg some (by kernel_rfl))
 f259:=Tryz.func177.trans (congrArg some (by kernel_rfl))
 t0:=Tryz.underlying0
 a0:=Tryz.isAgg0
 z0:=Tryz.sizeOf0
 v0:=Tryz.zeroValue0
 t3:=Tryz.underlying3
 a3:=Tryz.isAgg3
 z3:=Tryz.sizeOf3
 v3:=Tryz.zeroValue3
 t4:=Tryz.underlying4
 a4:=Tryz.isAgg4
 z4:=Tryz.sizeOf4
 v4:=Tryz.zeroValue4
 t5:=Tryz.underlying5
 a5:=Tryz.isAgg5
 z5:=Tryz.sizeOf5
 v5:=Tryz.zeroValue5
 t9:=Tryz.underlying9
 a9:=Tryz.isAgg9
 z9:=Tryz.sizeOf9
 v9:=Tryz.zeroValue9
 t12:=Tryz.underlying12
 a12:=Tryz.isAgg12
 z12:=Tryz.sizeOf12
 v12:=Tryz.zeroValue12
 t46:=Tryz.underlying141
 a46:=Tryz.isAgg141
 z46:=Tryz.sizeOf141
 v46:=Tryz.zeroValue141
 t53:=Tryz.underlying182
 a53:=Tryz.isAgg182
 z53:=Tryz.sizeOf182
 v53:=Tryz.zeroValue182
 t119:=Tryz.underlying193
 a119:=Tryz.isAgg193
 z119:=Tryz.sizeOf193
 t138:=Tryz.underlying195
 a138:=Tryz.isAgg195
 z138:=Tryz.sizeOf195
 v138:=Tryz.zeroValue195
 t139:=Tryz.underlying196
 a139:=Tryz.isAgg196
 z139:=Tryz.sizeOf196
 v139:=Tryz.zeroValue196
 g3:=by kernel_rfl
 g4:=by kernel_rfl}
def Tryz.contF_ren:Go.Shelf.Ren:=⟨fun | 8=> 152 | 6=> 183 | n=> n,fun | 22=> 69 | 23=> 26 | 25=> 44 | 4=> 4 | 3=> 3 | 0=> 0 | n=> n,fun | n=> n⟩
theorem Tryz.contF:Go.Proofs.SlLaysH.n8 Tryz.prog Tryz.contF_ren:= {
 mixed:=by kernel_rfl
 f6:=⟨Tryz.f183.name,by decide,Tryz.func183.trans (congrArg some (by kernel_rfl))⟩
 f8:=⟨Tryz.f152.name,by decide,Tryz.func152.trans (congrArg some (by kernel_rfl))⟩
 t0:=Tryz.underlying0
 a0:=Tryz.isAgg0
 z0:=Tryz.sizeOf0
 v0:=Tryz.zeroValue0
 t3:=Tryz.underlying3
 a3:=Tryz.isAgg3
 z3:=Tryz.sizeOf3
 v3:=Tryz.zeroValue3
 t4:=Tryz.underlying4
 a4:=Tryz.isAgg4
 z4:=Tryz.sizeOf4
 v4:=Tryz.zeroValue4
 t22:=Tryz.underlying69
 a22:=Tryz.isAgg69
 z22:=Tryz.sizeOf69
 v22:=Tryz.zeroValue69
 a23:=Tryz.isAgg26
 z23:=Tryz.sizeOf26
 t25:=Tryz.underlying44
 a25:=Tryz.isAgg44
 z25:=Tryz.sizeOf44
 v25:=Tryz.zeroValue44}
end Go.Proofs
namespace Go.Proofs.YtgmangikcfakgaaGreatDoor
open Go.RowKit Sh Jt Js
namespace Js
theorem skip_is:∀l,Lib.trimLeftS l [32,9,10,13]=skip l
 | []=> rfl
 | a::r=> by
  have ih:=skip_is r
  unfold Lib.trimLeftS at*
  rw [skip,List.dropWhile_cons]
  by_cases h:a=32∨a=9∨a=10∨a=13
  ·rw [if_pos h,if_pos (by rcases h with rfl | rfl | rfl | rfl <;> decide),ih]
  ·rw [if_neg h,if_neg]
   intro h2
   simp only [List.contains_eq_mem,List.mem_cons,List.not_mem_nil,or_false,decide_eq_true_eq]at h2
   exact h h2
theorem skip_len:∀l:List UInt8,(skip l).length≤l.length
 | []=> Nat.le_refl _
 | a::r=> by
  have:=skip_len r
  rw [skip]
  split
  ·rw [List.length_cons];omega
  ·exact Nat.le_refl _
theorem skip_skip:∀l:List UInt8,skip (skip l)=skip l
 | []=> rfl
 | a::r=> by
  rw [skip]
  split
  ·exact skip_skip r
  next h=> rw [skip,if_neg h]
theorem sb_from2 (l:List UInt8) (k:Nat):(sb l).extract k l.length=sb (l.drop k):=by
 have:=sb_cut l k l.length
 rw [List.take_length]at this
 exact this
theorem sb_upto2 (l:List UInt8) (k:Nat):(sb l).extract 0 k=sb (l.take k):=by
 have:=sb_cut l 0 k
 rw [List.drop_zero]at this
 exact this
end Js
theorem trims_sb (s:List UInt8) (w:World):Calls Tryz.prog 95 #[.string (sb s), .string ⟨#[32,9,10,13]⟩] w fun e w'=> e= .returned (.string (sb (skip s)))∧Below w.heap.size w w':=by
 have h:=Any.strings_TrimLeft_laid Tryz.lays161 (by kernel_rfl) (sb s) ⟨#[32,9,10,13]⟩ w (by decide) (ascii_of_all (by decide))
 refine Calls.mono h ?_
 rintro e w' ⟨rfl,B⟩
 refine ⟨?_,B⟩
 rw [sb_data,show (⟨#[32,9,10,13]⟩:ByteArray).data.toList=[32,9,10,13]from rfl,skip_is]
 rfl
theorem clone_sb (s:List UInt8) (hs:s.length≤281474976710656) (w:World):Calls Tryz.prog 165 #[.string (sb s)] w fun e w'=> e= .returned (.string (sb s))∧Below w.heap.size w w':=by
 have HC:=Lib.hid (Tryz.stringslite_Clone (sb s) w (by rw [sb_size];exact hs))
 generalize sb s=S at*
 go_enter Tryz.func165,Tryz.ntmps165
 go_wp2_with fail
 refine HC.out.mono ?_
 rintro e w1 ⟨rfl,B1⟩
 have HB1:=Lib.hid B1
 clear B1
 go_wp2_with fail
 go_ret
 exact ⟨rfl,HB1.out⟩
theorem OwnVals.block {w:World} {B:Nat} {v:Value} {L:List V} (h:OwnVals w B v L) {k:Nat} (hk:v.ownBlock=some k):B≤k∧k < w.heap.size:=by
 obtain ⟨A,c,rfl,_,_,h2,_⟩:=h.vals
 cases A with
 | none=> cases hk
 | some a=>
  obtain ⟨g,rfl,h3,h4⟩:=h2 _ rfl
  obtain rfl:g=k:=Option.some.inj hk
  exact ⟨h3,h4⟩
structure RSt (w:World) (b:Nat) (s:List UInt8) (v:Value) (L:List V) (d:Int):Prop where
 row:Row w b 86 [.string (sb s),v, .int .i64 d]
 own:OwnVals w (b+1) v L
structure Stp (w w':World) (b:Nat) (v v':Value):Prop where
 kept:Kept w w' (fun k=> k=b∨v.ownBlock=some k)
 fresh:∀k,v'.ownBlock=some k→v.ownBlock=some k∨w.heap.size≤k
theorem Stp.refl (w:World) (b:Nat) (v:Value):Stp w w b v v:=⟨Kept.refl _ _,fun _ h=> .inl h⟩
theorem Stp.trans {w w1 w2:World} {b:Nat} {v v1 v2:Value} (h:Stp w w1 b v v1) (k:Stp w1 w2 b v1 v2):Stp w w2 b v v2:=by
 refine ⟨⟨k.kept.os.trans h.kept.os,k.kept.tape.trans h.kept.tape,k.kept.output.trans h.kept.output,Nat.le_trans h.kept.size k.kept.size,fun i hi hn=> ?_⟩,fun i hi=> ?_⟩
 ·refine (k.kept.block i (Nat.lt_of_lt_of_le hi h.kept.size) (fun hh=> ?_)).trans (h.kept.block i hi hn)
  rcases hh with hh | hh
  ·exact hn (.inl hh)
  ·rcases h.fresh i hh with h2 | h2
   ·exact hn (.inr h2)
   ·omega
 ·rcases k.fresh i hi with h2 | h2
  ·exact h.fresh i h2
  ·exact .inr (Nat.le_trans h.kept.size h2)
theorem Stp.of_below {w w':World} (h:Below w.heap.size w w') (b:Nat) (v:Value):Stp w w' b v v:=⟨Kept.of_below h (fun _ hk _=> hk),fun _ h=> .inl h⟩
theorem Stp.size {w w':World} {b:Nat} {v v':Value} (h:Stp w w' b v v'):w.heap.size≤w'.heap.size:=h.kept.size
theorem Stp.below {w w':World} {b:Nat} {v v':Value} (h:Stp w w' b v v') {B:Nat} (hB:B≤b) (hs:B≤w.heap.size) (ho:∀k,v.ownBlock=some k→B≤k):Below B w w':=h.kept.below hs fun k hk hh=> by
 rcases hh with rfl | hh
 ·omega
 ·have:=ho k hh
  omega
section
variable {w w1:World} {b:Nat} {s:List UInt8} {v:Value} {L:List V} {d:Int}
theorem RSt.lt (h:RSt w b s v L d):b < w.heap.size:=h.row.lt
theorem RSt.below (h:RSt w b s v L d) (hb:Below w.heap.size w w1):RSt w1 b s v L d:=⟨h.row.below hb h.row.lt,h.own.below hb⟩
theorem RSt.kept {S:Nat→Prop} (h:RSt w b s v L d) (k:Kept w w1 S) (hb:¬S b) (ho:∀k,v.ownBlock=some k→¬S k):RSt w1 b s v L d:=⟨k.row h.row hb,h.own.kept k ho⟩
theorem RSt.other (h:RSt w b s v L d) {i:Nat} {x:Value}:OwnVals (w.setCell ⟨b,i,none⟩ x) (b+1) v L:=
 h.own.kept ((Kept.refl w (·=b)).setCell (a:=⟨b,i,none⟩) (.inr rfl) x) (fun k hk e=> by
  have:=(h.own.block hk).1
  omega)
theorem RSt.rest (h:RSt w b s v L d) (B1:Below w.heap.size w w1) (s':List UInt8):RSt (w1.setCell ⟨b,0,none⟩ (.string (sb s'))) b s' v L d∧Stp w (w1.setCell ⟨b,0,none⟩ (.string (sb s'))) b v v:=by
 have h1:=h.below B1
 exact ⟨⟨h1.row.set 0 _,h1.other⟩,⟨(Stp.of_below B1 b v).kept.setCell (a:=⟨b,0,none⟩) (.inr (.inl rfl)) _,fun _ h=> .inl h⟩⟩
theorem RSt.deep (h:RSt w b s v L d) (d':Int):RSt (w.setCell ⟨b,2,none⟩ (.int .i64 d')) b s v L d'∧Stp w (w.setCell ⟨b,2,none⟩ (.int .i64 d')) b v v:=
 ⟨⟨h.row.set 2 _,h.other⟩,⟨(Kept.refl _ _).setCell (a:=⟨b,2,none⟩) (.inr (.inl rfl)) _,fun _ h=> .inl h⟩⟩
theorem RSt.cells (h:RSt w b s v L d):w.cell? ⟨b,0,none⟩=some (.string (sb s))∧w.cell? ⟨b,1,none⟩=some v∧w.cell? ⟨b,2,none⟩=some (.int .i64 d):=
 ⟨h.row.cell rfl,h.row.cell rfl,h.row.cell rfl⟩
end
set_option maxRecDepth 100000 in
set_option maxHeartbeats 1000000 in
theorem js_skip (w:World) (b:Nat) (s:List UInt8) (v:Value) (L:List V) (d:Int) (h:RSt w b s v L d):
  Calls Tryz.prog 60 #[.pointer (some ⟨b,0,none⟩)] w fun e w'=> e= .returned (.tuple #[])∧Hid (RSt w' b (skip s) v L d∧Stp w w' b v v):=by
 have HT:=Lib.hid (trims_sb s w)
 have HR:=Lib.hid h
 obtain ⟨c0,_,_⟩:=h.cells
 have HX:=Lib.hid (fun w1 B1=> h.rest (w1:=w1) B1 (skip s))
 clear h
 generalize sb s=S at*
 generalize sb (skip s)=S2 at*
 go_enter Tryz.func60,Tryz.ntmps60
 go_wp2_with fail
 refine HT.out.mono ?_
 rintro e w1 ⟨rfl,B1⟩
 have hf:=(HR.out.below B1).row.frozen 0
 obtain ⟨c1,_,_⟩:=(HR.out.below B1).cells
 have HY:=Lib.hid (HX.out w1 B1)
 clear B1 HX c0
 go_wp2_with fail
 go_end0
 exact ⟨rfl,HY⟩
namespace Js
def kindN (z:Int):Option Int:=if z=110 then some 0 else if z=116 then some 1 else if z=102 then some 2 else if z=45∨(48≤z∧z≤57) then some 3 else if z=34 then some 4 else if z=91 then some 5 else if z=123 then some 6 else none
def kindF:List UInt8→Option Int
 | []=> none
 | a::_=> kindN (n8 a)
def kindV:Option Int→Value
 | some k=> .tuple #[.int .i64 k, .bool true]
 | none=> .tuple #[.int .i64 0, .bool false]
end Js
set_option maxRecDepth 100000 in
set_option maxHeartbeats 4000000 in
theorem js_kind (w:World) (b:Nat) (s:List UInt8) (v:Value) (L:List V) (d:Int) (h:RSt w b s v L d):
  Calls Tryz.prog 93 #[.pointer (some ⟨b,0,none⟩)] w fun e w'=> e= .returned (kindV (kindF (skip s)))∧Hid (RSt w' b (skip s) v L d∧Stp w w' b v v):=by
 have HS:=Lib.hid (js_skip w b s v L d h)
 clear h
 generalize hu:skip s=u at*
 clear hu
 match u with
 | []=>
  have h1:(sb []).toList=[]:=sb_list _
  have h2:(sb []).toList.isEmpty=true:=by rw [h1];rfl
  go_enter Tryz.func93,Tryz.ntmps93
  go_wp2_with fail
  refine HS.out.mono ?_
  rintro e w1 ⟨rfl,HX⟩
  obtain ⟨c0,_,_⟩:=HX.out.1.cells
  go_wp2_with fail
  go_ret2
  exact ⟨rfl,HX⟩
 | a::r=>
  have h1:¬(sb (a::r)).toList=[]:=by rw [sb_list];exact List.cons_ne_nil _ _
  have h2:(sb (a::r)).toList.isEmpty=false:=by rw [sb_list];rfl
  have hix:∀W,(Instr.index 9 (.string (sb (a::r))) (.int .i64 0)).run Tryz.prog W= .ok (.int .u8 (n8 a)) W:=fun W=> sb_index (a::r) 0 (by simp) W
  have HC:=Lib.hid (fun w1 (hx:RSt w1 b (a::r) v L d)=> hx.cells.1)
  show Calls _ _ _ _ fun e w'=> e= .returned (kindV (kindN (n8 a)))∧_
  generalize n8 a=z at*
  generalize sb (a::r)=S at*
  go_enter Tryz.func93,Tryz.ntmps93
  go_wp2_with fail
  refine HS.out.mono ?_
  rintro e w1 ⟨rfl,HX⟩
  have c0:=HC.out w1 HX.out.1
  clear HC HS
  go_wp2_with fail
  all_goals (go_ret2;simp only [beq_iff_eq,beq_eq_false_iff_ne,ne_eq]at*;refine ⟨?_,HX⟩;unfold kindN;(repeat' split) <;> first | rfl | omega)
def Js.textV:Option (List UInt8×Nat)→Value
 | some p=> .tuple #[.string (sb p.1), .int .i64 0]
 | none=> .tuple #[.string ⟨#[]⟩, .int .i64 3]
def Js.textR (s:List UInt8):Option (List UInt8×Nat)→List UInt8
 | some p=> s.drop p.2
 | none=> s
theorem unq_le {s:List UInt8} {p:List UInt8×Nat} (h:unqF s=some p):p.2≤s.length∧2≤p.2:=by
 obtain ⟨x,k⟩:=p
 have:=unqF_cut h
 exact ⟨this.2.2.1,this.2.1⟩
set_option maxRecDepth 100000 in
set_option maxHeartbeats 1000000 in
theorem js_text (w:World) (b:Nat) (s:List UInt8) (v:Value) (L:List V) (d:Int) (h:RSt w b s v L d) (hs:s.length≤1000000000) (hE:ErrOk w):
  Calls Tryz.prog 128 #[.pointer (some ⟨b,0,none⟩)] w fun e w'=> e= .returned (textV (unqF s))∧Hid (RSt w' b (textR s (unqF s)) v L d∧Stp w w' b v v):=by
 have HU:=Lib.hid (jt_unquote w s hs hE)
 have HR:=Lib.hid h
 obtain ⟨c0,_,_⟩:=h.cells
 have hsz:=sb_size s
 clear hE
 cases hu:unqF s with
 | none=>
  rw [hu]at HU
  have HX:=Lib.hid (fun w1 B1=> And.intro (h.below (w1:=w1) B1) (Stp.of_below B1 b v))
  unfold unqV at HU
  unfold textV
  show Calls _ _ _ _ fun e w'=> _∧Hid (RSt w' b s v L d∧_)
  clear h hu
  generalize sb s=S at*
  go_enter Tryz.func128,Tryz.ntmps128
  go_wp2_with fail
  refine HU.out.mono ?_
  rintro e w1 ⟨rfl,B1⟩
  have HY:=Lib.hid (HX.out w1 B1)
  clear B1 HX c0
  go_wp2_with fail
  go_ret2
  exact ⟨rfl,HY⟩
 | some p=>
  rw [hu]at HU
  obtain ⟨x,n⟩:=p
  have hn:=(unq_le hu).1
  dsimp only at hn
  have HX:=Lib.hid (fun w1 B1=> h.rest (w1:=w1) B1 (s.drop n))
  have hcut:=sb_from2 s n
  unfold unqV at HU
  dsimp only at HU
  unfold textV
  show Calls _ _ _ _ fun e w'=> _∧Hid (RSt w' b (s.drop n) v L d∧_)
  dsimp only
  clear h hu
  generalize sb s=S at*
  generalize sb (s.drop n)=S2 at*
  generalize sb x=X at*
  go_enter Tryz.func128,Tryz.ntmps128
  go_wp2_with fail
  refine HU.out.mono ?_
  rintro e w1 ⟨rfl,B1⟩
  have hf:=(HR.out.below B1).row.frozen 0
  have c1:w1.cell? ⟨b,0,none⟩=some (.string S):=(kept_below B1).cell c0 (fun h=> h)
  have HY:=Lib.hid (HX.out w1 B1)
  clear B1 HX c0
  go_wp2_with fail
  go_ret2
  exact ⟨rfl,HY⟩
def Js.numV (s:List UInt8):Value:=if numF s=0 then .tuple #[.string ⟨#[]⟩, .int .i64 3] else .tuple #[.string (sb (s.take (numF s))), .int .i64 0]
set_option maxRecDepth 100000 in
set_option maxHeartbeats 1000000 in
theorem js_number (w:World) (b:Nat) (s:List UInt8) (v:Value) (L:List V) (d:Int) (h:RSt w b s v L d) (hs:s.length≤1000000000):
  Calls Tryz.prog 127 #[.pointer (some ⟨b,0,none⟩)] w fun e w'=> e= .returned (numV s)∧Hid (RSt w' b (s.drop (numF s)) v L d∧Stp w w' b v v):=by
 have HU:=Lib.hid (jt_number w s hs)
 have HR:=Lib.hid h
 obtain ⟨c0,_,_⟩:=h.cells
 have hsz:=sb_size s
 have hn:=num_le s
 by_cases h0:numF s=0
 ·have HX:=Lib.hid (fun w1 B1=> And.intro (h.below (w1:=w1) B1) (Stp.of_below B1 b v))
  unfold numV
  rw [if_pos h0]
  rw [h0]at HU
  rw [h0,List.drop_zero]
  clear h h0 hn
  generalize sb s=S at*
  go_enter Tryz.func127,Tryz.ntmps127
  go_wp2_with fail
  refine HU.out.mono ?_
  rintro e w1 ⟨rfl,B1⟩
  have HY:=Lib.hid (HX.out w1 B1)
  clear B1 HX c0
  go_wp2_with fail
  go_ret2
  exact ⟨rfl,HY⟩
 ·unfold numV
  rw [if_neg h0]
  have HC:=Lib.hid (fun W=> clone_sb (s.take (numF s)) (by rw [List.length_take];omega) W)
  have hcut:=sb_from2 s (numF s)
  have hcut2:=sb_upto2 s (numF s)
  have HX:=Lib.hid (fun w1 B1=> h.rest (w1:=w1) B1 (s.drop (numF s)))
  generalize numF s=n at*
  have h0':¬(n:Int)=0:=by omega
  clear h h0
  generalize sb s=S at*
  generalize sb (s.drop n)=S2 at*
  generalize sb (s.take n)=S3 at*
  go_enter Tryz.func127,Tryz.ntmps127
  go_wp2_with fail
  refine HU.out.mono ?_
  rintro e w1 ⟨rfl,B1⟩
  have c1:w1.cell? ⟨b,0,none⟩=some (.string S):=(kept_below B1).cell c0 (fun h=> h)
  have HB1:=Lib.hid B1
  clear B1 c0
  go_wp2_with fail
  refine (HC.out _).mono ?_
  rintro e w2 ⟨rfl,B2⟩
  have B3:=HB1.out.trans (B2.mono HB1.out.size)
  have hf:=(HR.out.below B3).row.frozen 0
  have c2:w2.cell? ⟨b,0,none⟩=some (.string S):=(kept_below B2).cell c1 (fun h=> h)
  have HY:=Lib.hid (HX.out w2 B3)
  clear B2 B3 HB1 HX c1 HC
  go_wp2_with fail
  go_ret2
  exact ⟨rfl,HY⟩
set_option maxRecDepth 100000 in
set_option maxHeartbeats 1000000 in
theorem js_sign (w:World) (b:Nat) (s p:List UInt8) (v:Value) (L:List V) (d:Int) (h:RSt w b s v L d):
  Calls Tryz.prog 132 #[.pointer (some ⟨b,0,none⟩), .string (sb p)] w fun e w'=> e= .returned (.bool (p.isPrefixOf (skip s)))∧
   Hid (RSt w' b (if p.isPrefixOf (skip s)=true then (skip s).drop p.length else skip s) v L d∧Stp w w' b v v):=by
 have HS:=Lib.hid (js_skip w b s v L d h)
 have HC:=Lib.hid (fun W=> cutp_sb (skip s) p W)
 generalize p.isPrefixOf (skip s)=q at*
 generalize (if q=true then (skip s).drop p.length else skip s)=u at*
 have HX:=Lib.hid (fun w1 (hx:RSt w1 b (skip s) v L d)=> hx.rest (Below.refl _ _) u)
 have HCL:=Lib.hid (fun w1 (hx:RSt w1 b (skip s) v L d)=> And.intro hx.cells.1 (hx.row.frozen 0))
 clear h
 generalize sb (skip s)=S at*
 generalize sb u=U at*
 generalize sb p=Q at*
 go_enter Tryz.func132,Tryz.ntmps132
 go_wp2_with fail
 refine HS.out.mono ?_
 rintro e w1 ⟨rfl,HY⟩
 obtain ⟨c0,hf⟩:=HCL.out w1 HY.out.1
 have HZ:=Lib.hid (HX.out w1 HY.out.1)
 clear HCL HX HS
 go_wp2_with fail
 refine (HC.out _).mono ?_
 rintro e w2 ⟨rfl,rfl⟩
 clear HC
 go_wp2_with fail
 go_ret
 exact ⟨rfl,Lib.hid ⟨HZ.out.1,HY.out.2.trans HZ.out.2⟩⟩
end Go.Proofs.YtgmangikcfakgaaGreatDoor
