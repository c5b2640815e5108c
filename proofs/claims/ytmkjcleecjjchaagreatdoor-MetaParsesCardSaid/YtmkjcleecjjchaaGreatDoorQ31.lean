import Derived.Test.YtmkjcleecjjchaaGreatDoorQ7
import Derived.Test.YtmkjcleecjjchaaGreatDoorQ30
import Derived.Lib.LaidU8T
import Derived.Lib.LaidTab
import Derived.LaidSub
import Derived.SizedLaws
import Derived.Deep.Slices
import Derived.Deep.Strs
import Derived.Test.YtmkjcleecjjchaaGreatDoorQ23
import Derived.Test.YtmkjcleecjjchaaGreatDoorQ10
import Derived.Deep.LoopGhost
import Derived.Deep.CutBlock
namespace Go.Proofs.YtmkjcleecjjchaaGreatDoor
instance:Inhabited Js.V:=⟨⟨0,[],[],0⟩⟩
instance:Inhabited Jo.Desc:=⟨Jo.noD⟩
set_option maxRecDepth 100000
open Go.ChangeShapes Go.WideShapes Go.ChangeAt Go.WideMaps Go.WideElems Go.RowKit Go.Deep Sh Jt Js Jo
def listed:List (String×DataW Unit):=[("math/bits.deBruijn32tab",Rows.laid_math_bits_deBruijn32tab),("math/bits.deBruijn64tab",Rows.laid_math_bits_deBruijn64tab),("internal/strconv.uint64pow10",Rows.laid_internal_strconv_uint64pow10),("unicode/utf8.acceptRanges",Rows.laid_unicode_utf8_acceptRanges),("strconv.ErrRange",Rows.laid_strconv_ErrRange),("strconv.ErrSyntax",Rows.laid_strconv_ErrSyntax),("onionskin/json.words",Rows.laid_onionskin_json_words),("unicode/utf8.first",Rows.laid_unicode_utf8_first)]
theorem sb_of (s:ByteArray):sb s.data.toList=s:=by
 apply ByteArray.ext
 simp [sb]
theorem iface_cell {H:Type} {enc:TypeId×Value→H} {W:World} {base:Nat} {sp:Nat→Bool} {held:Bool} {fuel:Nat} {t:TypeId} {cs:List Value} {nm:String} {d:DataW H} {q:List MemPlace} {ms:Array (String×TypeId)}
  (hu:Tryz.prog.underlying t=some (.interface ms)) (h:DataW.trod enc Tryz.prog W base sp held fuel t cs=some (.iface nm d,q)):∃u y,cs=[.iface u y]:=by
 cases fuel with
 | zero=> simp [DataW.trod]at h
 | succ n=>
  unfold DataW.trod at h
  rw [hu]at h
  split at h <;> simp_all
theorem err_of_reads {W:World} {nm:String} {g:Nat} {t2:String} {d:DataW Unit} (hg:Tryz.prog.globalNamed nm=some g) (ht:(Tryz.prog.globals[g]?).map (·.type)=some 80) (h:Lib.VarReads Tryz.prog W nm (.iface t2 d)):∃te pe,W.cell? ⟨g,0,none⟩=some (.iface te pe):=by
 obtain ⟨g',t',cs,fuel,p,hg',ht',hvar,hd⟩:=h
 obtain rfl:=Option.some.inj (hg.symm.trans hg')
 obtain rfl:=Option.some.inj (ht.symm.trans ht')
 obtain ⟨u,y,e⟩:=iface_cell Tryz.underlying80 hd
 refine ⟨u,y, ?_⟩
 rw [World.var?_cell hg hvar 0,←Array.getElem?_toList,e]
 rfl
theorem str_cell {H:Type} {enc:TypeId×Value→H} {W:World} {base:Nat} {sp:Nat→Bool} {held:Bool} {fuel:Nat} {v:Value} {s:List UInt8} {q:List MemPlace}
  (h:DataW.trod enc Tryz.prog W base sp held fuel 9 [v]=some (.lit (.string s),q)):v= .string (sb s):=by
 obtain ⟨b,e,e2,_⟩:=DataW.trod_string Tryz.underlying9 h
 simp only [Prod.mk.injEq,DataW.lit.injEq,Lit.string.injEq]at e2
 rw [e2.1,sb_of]
 simpa using e
theorem words_of_reads {W:World} (h:Lib.VarReads Tryz.prog W "onionskin/json.words" Rows.laid_onionskin_json_words):
  W.cell? ⟨0,0,none⟩=some (.string (sb [110,117,108,108]))∧W.cell? ⟨0,1,none⟩=some (.string (sb [116,114,117,101]))∧W.cell? ⟨0,2,none⟩=some (.string (sb [102,97,108,115,101])):=by
 obtain ⟨g',t',cs,fuel,p,hg',ht',hvar,hd⟩:=h
 have hg:Tryz.prog.globalNamed "onionskin/json.words" =some 0:=by kernel_rfl
 have ht:(Tryz.prog.globals[0]?).map (·.type)=some 108:=by kernel_rfl
 obtain rfl:=Option.some.inj (hg.symm.trans hg')
 obtain rfl:=Option.some.inj (ht.symm.trans ht')
 obtain ⟨xs,m,_,hx,hl,hxl,hat⟩:=DataW.trod_array Tryz.underlying108 hd
 have hc1:Tryz.prog.cellsOf 9=1:=by kernel_rfl
 have hc3:Tryz.prog.cellsOf 108=3:=by kernel_rfl
 rw [hc3]at hl
 rw [hc1]at hat
 simp only [Prod.mk.injEq,Rows.laid_onionskin_json_words,DataW.agg.injEq]at hx
 have a0:=hat 0 (by decide)
 have a1:=hat 1 (by decide)
 have a2:=hat 2 (by decide)
 match xs,hxl with
 | [x0,x1,x2],_=>
  obtain ⟨x0,y0⟩:=x0
  obtain ⟨x1,y1⟩:=x1
  obtain ⟨x2,y2⟩:=x2
  obtain ⟨hx,_⟩:=hx
  simp only [List.map_cons,List.map_nil,List.cons.injEq,and_true]at hx
  obtain ⟨rfl,rfl,rfl⟩:=hx
  have hcs:∃v0 v1 v2,cs.toList=[v0,v1,v2]:=by
   match h:cs.toList,hl with
   | [v0,v1,v2],_=> exact ⟨v0,v1,v2,rfl⟩
  obtain ⟨v0,v1,v2,hcs⟩:=hcs
  rw [hcs]at a0 a1 a2
  have e0:=str_cell a0
  have e1:=str_cell a1
  have e2:=str_cell a2
  refine ⟨?_, ?_, ?_⟩
  ·rw [World.var?_cell hg hvar 0,←Array.getElem?_toList,hcs,←e0]
   rfl
  ·rw [World.var?_cell hg hvar 1,←Array.getElem?_toList,hcs,←e1]
   rfl
  ·rw [World.var?_cell hg hvar 2,←Array.getElem?_toList,hcs,←e2]
   rfl
theorem pow_data:Rows.laid_internal_strconv_uint64pow10 (H:=Unit)=Lib.tabData .u64 Lib.pow10Tab:=rfl
theorem tab_of_laid {W:World} (h:laidMetH Tryz.prog listed W):Lib.TabIs Tryz.prog W "internal/strconv.uint64pow10" .u64 Lib.pow10Tab:=by
 rw [MakeChecks.laidMetH_plain _ _ _ (by kernel_rfl)]at h
 have h2:=laidMet.filter (fun x=> x.1== "internal/strconv.uint64pow10") h
 rw [show listed.filter (fun x=> x.1== "internal/strconv.uint64pow10")=[("internal/strconv.uint64pow10",Rows.laid_internal_strconv_uint64pow10)]from rfl,pow_data]at h2
 exact Lib.tabIs_of_head (g:=4) (t:=203) (by kernel_rfl) (by kernel_rfl) Tryz.underlying203 Tryz.underlying179 (by kernel_rfl) (by kernel_rfl) h2
theorem env_of_laid0 {W:World} (h:laidMetH Tryz.prog listed W) (hp:Lib.TabIs Tryz.prog W "internal/strconv.uint64pow10" .u64 Lib.pow10Tab):MEnv W:=by
 rw [MakeChecks.laidMetH_plain _ _ _ (by kernel_rfl)]at h
 have hr:Lib.VarReads Tryz.prog W "strconv.ErrRange" Rows.laid_strconv_ErrRange:=Lib.laidMet.reads h (by simp [listed])
 have hs:Lib.VarReads Tryz.prog W "strconv.ErrSyntax" Rows.laid_strconv_ErrSyntax:=Lib.laidMet.reads h (by simp [listed])
 have hw:Lib.VarReads Tryz.prog W "onionskin/json.words" Rows.laid_onionskin_json_words:=Lib.laidMet.reads h (by simp [listed])
 have hf:Lib.VarReads Tryz.prog W "unicode/utf8.first" Rows.laid_unicode_utf8_first:=Lib.laidMet.reads h (by simp [listed])
 have ha:Lib.VarReads Tryz.prog W "unicode/utf8.acceptRanges" Rows.laid_unicode_utf8_acceptRanges:=Lib.laidMet.reads h (by simp [listed])
 have er:=err_of_reads (g:=6) (by kernel_rfl) (by kernel_rfl) hr
 have es:=err_of_reads (g:=5) (by kernel_rfl) (by kernel_rfl) hs
 obtain ⟨w0,w1,w2⟩:=words_of_reads hw
 have hf2:Lib.VarReads Tryz.prog W "unicode/utf8.first" Lib.firstData:=by
  rw [←Go.Pinned.utf8First_eq]
  exact hf
 have ha2:Lib.VarReads Tryz.prog W "unicode/utf8.acceptRanges" Lib.acceptData:=by
  have e:Rows.laid_unicode_utf8_acceptRanges (H:=Unit)=Lib.acceptData:=by kernel_rfl
  rw [←e]
  exact ha
 have l1:=World.block_lt_of_cell? W _ w0
 have l2:5 < W.heap.size:=by
  obtain ⟨_,_,c⟩:=es
  exact World.block_lt_of_cell? W _ c
 have l3:6 < W.heap.size:=by
  obtain ⟨_,_,c⟩:=er
  exact World.block_lt_of_cell? W _ c
 exact ⟨⟨⟨es,er⟩,w0,w1,w2,l1,l2,l3⟩,⟨utf8Tabs_of_readsT (U8Types.of196 Tryz.laysV) ⟨by kernel_rfl,by kernel_rfl,by kernel_rfl,by kernel_rfl,by kernel_rfl,by kernel_rfl,by kernel_rfl⟩ hf2 ha2,hp⟩⟩
theorem env_of_laid {W:World} (h:laidMetH Tryz.prog listed W):MEnv W:=env_of_laid0 h (tab_of_laid h)
end Go.Proofs.YtmkjcleecjjchaaGreatDoor
namespace Go.Proofs.YtmkjcleecjjchaaGreatDoor
open Go
namespace Jo
open Jt Js
set_option maxRecDepth 100000
def descR (L:List V):Option Desc:=
 match getA L 0 mediaK,getA L 0 digK,getA L 0 sizeK with
 | some m,some d,some s=>
  if L.length=4∧kindOf (L.drop m)=4∧kindOf (L.drop d)=4∧kindOf (L.drop s)=3 then
   (Dg.parse (textOf (L.drop d))).bind fun x=> (intF (textOf (L.drop s))).bind fun n=> if sizeOk n=true then some ⟨textOf (L.drop m),x,n⟩ else none
  else none
 | _,_,_=> none
theorem mem_at {L:List V} {key:List UInt8} {p:Nat} (h:getA L 0 key=some p) (k:Int):memF L key k=if kindOf (L.drop p)=k then some (textOf (L.drop p)) else none:=by
 obtain ⟨hp,h1,h2⟩:=get_head h
 unfold memF tellF
 rw [h1,h2,List.drop_eq_getElem_cons hp]
 rfl
theorem count_len {L:List V} {m g s:List UInt8} (hm:memF L mediaK 4=some m) (hg:memF L digK 4=some g) (hs:memF L sizeK 3=some s):countOf L=3↔L.length=4:=by
 obtain ⟨P,hP⟩:=obj_is (mem_some (by decide) hm).1
 obtain ⟨p1,m1,k1,q1,_⟩:=mem_part hP (by decide) hm
 obtain ⟨p2,m2,k2,q2,_⟩:=mem_part hP (by decide) hg
 obtain ⟨p3,m3,k3,q3,_⟩:=mem_part hP (by decide) hs
 have d12:p1≠p2:=fun e=> by subst e;rw [k1]at k2;revert k2;decide
 have d13:p1≠p3:=fun e=> by subst e;rw [k1]at k3;revert k3;decide
 have d23:p2≠p3:=fun e=> by subst e;rw [k2]at k3;revert k3;decide
 have hc:countOf L=(P.length:Nat):=by rw [hP.eq];rfl
 have hl:L.length=P.flatten.length+1:=flat_len hP
 have one:∀p∈P,(kindOf p=3∨kindOf p=4)→p.length=1:=fun p hp hk=> by
  obtain ⟨v,l,t,rfl,ho⟩:=part_is hP hp
  rw [leaf_none ho hk]
  rfl
 constructor
 ·intro h3
  have hlen:P.length=3:=by omega
  rw [hl]
  match P,hlen with
  | [x1,x2,x3],_=>
   have all:=three_all d12 d13 d23 m1 m2 m3
   have each:∀p∈[x1,x2,x3],p.length=1:=fun p hp=> one p hp (by
    rcases all p hp with rfl | rfl | rfl
    ·exact .inr q1
    ·exact .inr q2
    ·exact .inl q3)
   rw [List.flatten_cons,List.flatten_cons,List.flatten_cons,List.flatten_nil,List.length_append,List.length_append,List.length_append,each x1 (by simp),each x2 (by simp),each x3 (by simp)]
   rfl
 ·intro h4
  have hle:=ends_few hP.ends
  have hlen:P.length≤3:=by omega
  have h3:P.length=3:=by
   match P,hlen with
   | [],_=> cases m1
   | [x],_=>
    rw [List.mem_singleton]at m1 m2
    exact absurd (m1.trans m2.symm) d12
   | [x,y],_=>
    simp only [List.mem_cons,List.not_mem_nil,or_false]at m1 m2 m3
    rcases m1 with rfl | rfl <;> rcases m2 with rfl | rfl <;> rcases m3 with rfl | rfl <;> first | exact absurd rfl d12 | exact absurd rfl d13 | exact absurd rfl d23
   | [x,y,z],_=> rfl
   | _::_::_::_::r,h=> simp only [List.length_cons]at h;omega
  omega
theorem desc_ref (L:List V):descR L=descF L:=by
 unfold descR descF
 cases hm:getA L 0 mediaK with
 | none=> rw [mem_none hm (by decide)];rfl
 | some m=>
  cases hd:getA L 0 digK with
  | none=>
   rw [mem_none hd (by decide)]
   cases memF L mediaK 4 <;> rfl
  | some d=>
   cases hs:getA L 0 sizeK with
   | none=>
    rw [mem_none hs (by decide)]
    cases memF L mediaK 4 <;> cases memF L digK 4 <;> rfl
   | some s=>
    dsimp only
    by_cases k1:kindOf (L.drop m)=4
    ·by_cases k2:kindOf (L.drop d)=4
     ·by_cases k3:kindOf (L.drop s)=3
      ·have e1:=mem_at hm 4
       have e2:=mem_at hd 4
       have e3:=mem_at hs 3
       rw [if_pos k1]at e1
       rw [if_pos k2]at e2
       rw [if_pos k3]at e3
       have hc:=count_len e1 e2 e3
       rw [e1,e2,e3]
       simp only [Option.bind_some]
       by_cases h4:L.length=4
       ·rw [if_pos ⟨h4,k1,k2,k3⟩,if_pos (hc.2 h4)]
       ·rw [if_neg (fun h=> h4 h.1),if_neg (fun h=> h4 (hc.1 h))]
      ·rw [if_neg (fun h=> k3 h.2.2.2),mem_at hs 3,if_neg k3]
       cases memF L mediaK 4 <;> cases memF L digK 4 <;> rfl
     ·rw [if_neg (fun h=> k2 h.2.2.1),mem_at hd 4,if_neg k2]
      cases memF L mediaK 4 <;> rfl
    ·rw [if_neg (fun h=> k1 h.2.1),mem_at hm 4,if_neg k1]
     rfl
theorem has_none {L:List V} (h:getA L 0 schemaK=none):hasF L=false:=by
 unfold hasF
 rw [mem_none h (by decide)]
 rfl
theorem has_at {L:List V} {p:Nat} (h:getA L 0 schemaK=some p):hasF L=decide (kindOf (L.drop p)=3∧textOf (L.drop p)=[50]):=by
 unfold hasF
 rw [mem_at h 3]
 by_cases k:kindOf (L.drop p)=3
 ·rw [if_pos k]
  simp [k]
 ·rw [if_neg k]
  simp [k]
theorem part_at {L x:List V} (hr:rightPF L=true) {k:Nat} {v:V} {Q:List (List V)} (hd:L.drop k=(v::Q.flatten)++x) (he:Ends Q) (hn:(Q.length:Int)=v.count) {j:Nat} (hj:j < Q.length):
  itemA L (k:Int) (j:Int)=some (k+1+offs Q j)∧cutA L ((k+1+offs Q j:Nat):Int)=named [] Q[j]:=by
 have hd1:L.drop (k+1)=Q.flatten++x:=by
  rw [←List.drop_drop,hd]
  rfl
 have hkl:k < L.length:=by
  have h1:=congrArg List.length hd
  simp only [List.length_drop,List.length_append,List.length_cons]at h1
  omega
 obtain ⟨y,hy⟩:=part_drop Q L x (k+1) hd1 j hj
 obtain ⟨r1,r2,_⟩:=row_part hy (he _ (List.getElem_mem hj))
 have hlt:k+1+offs Q j < L.length:=by
  have h0:=he.pos (List.getElem_mem hj)
  have h1:=congrArg List.length hy
  rw [List.length_drop,List.length_append]at h1
  omega
 constructor
 ·unfold itemA placeB
  have hc:countOf (L.drop (k:Int).toNat)=v.count:=by rw [Int.toNat_natCast,hd];rfl
  rw [hr,Bool.and_true,hc,if_pos ⟨decide_eq_true (by omega),by omega,by omega⟩]
  have:=step_parts Q L x (k+1) he hd1 j (Nat.le_of_lt hj)
  rw [Int.toNat_natCast,Int.toNat_natCast]
  show some (stepF L (k+1) j)=_
  rw [this]
 ·unfold cutA placeB
  rw [hr,Bool.and_true,if_pos (decide_eq_true (by omega)),Int.toNat_natCast,r2]
theorem parts_bare {d:Nat} {ks:List (List UInt8)} {P:List (List V)} (h:Parts d false ks P):∀p∈P,Js.keyOf p=[]:=by
 induction h with
 | nil=> exact fun _ h=> by cases h
 | cons h1 _ ih=>
  intro p hp
  rcases List.mem_cons.1 hp with rfl | hp
  ·exact h1.own.1 rfl
  ·exact ih p hp
theorem lay_parts {L:List V} {key:List UInt8} {k:Nat} (hg:getA L 0 key=some k) (h5:kindOf (L.drop k)=5):
  (((partsL (ofKey L key)).length:Nat):Int)=countOf (L.drop k)∧∀(j:Nat) (hj:j < (partsL (ofKey L key)).length),cutA L (plc (itemA L (k:Int) (j:Int)))=(partsL (ofKey L key))[j]:=by
 obtain ⟨hp,h1,_⟩:=get_head hg
 have hne:ofKey L key≠[]:=fun e=> by
  rw [List.drop_eq_getElem_cons hp]at h5
  have h6:L[k].kind=5:=h5
  rw [e,h6]at h1
  exact absurd h1 (by decide)
 obtain ⟨P,hP⟩:=obj_is (key_isO hne)
 have hR:=key_right hP hne
 obtain ⟨v,Q,e,he,hn,_,⟨ks,_,hq,_⟩,_⟩:=right_whole hR
 have hk5:v.kind=5:=by
  rw [List.drop_eq_getElem_cons hp]at h5
  rw [e]at h1
  exact h1.trans h5
 have ho:isObj v=false:=decide_eq_false (by omega)
 rw [ho]at hq
 have hparts:partsL (ofKey L key)=Q:=by
  have hr:=parts_prog hq []
  rw [List.append_nil,←hq.len]at hr
  unfold partsL
  rw [e]
  show partsP v.count.toNat Q.flatten=Q
  rw [←hn,Int.toNat_natCast]
  exact hr
 have hcut:ofKey L key=named [] ((L.drop k).take (rowE L k)):=by
  unfold ofKey cutA placeB
  rw [hg,hP.right,Bool.and_true]
  show (if decide ((0:Int)≤(k:Nat)∧((k:Nat):Int) < L.length)=true then named [] ((L.drop ((k:Nat):Int).toNat).take (rowE L ((k:Nat):Int).toNat)) else [])=_
  rw [if_pos (decide_eq_true (by omega)),Int.toNat_natCast]
 have hd:∃v2 x,L.drop k=(v2::Q.flatten)++x∧v2.count=v.count:=by
  have hsplit:=List.take_append_drop (rowE L k) (L.drop k)
  rw [e]at hcut
  cases ht:(L.drop k).take (rowE L k)with
  | nil=> rw [ht]at hcut;cases hcut
  | cons a r=>
   rw [ht]at hcut hsplit
   have hc:v::Q.flatten= {a with key:=[]}::r:=hcut
   obtain ⟨hv,hr⟩:=List.cons.inj hc
   exact ⟨a,_,by rw [hr];exact hsplit.symm,by rw [hv]⟩
 obtain ⟨v2,x,hd,hv2⟩:=hd
 rw [hparts]
 refine ⟨by rw [hd];exact hn.trans hv2.symm,fun j hj=> ?_⟩
 obtain ⟨i1,i2⟩:=part_at hP.right hd he (hn.trans hv2.symm) hj
 rw [i1]
 show cutA L ((k+1+offs Q j:Nat):Int)=_
 rw [i2]
 exact named_self (parts_bare hq _ (List.getElem_mem hj))
end Jo
end Go.Proofs.YtmkjcleecjjchaaGreatDoor
namespace Go.Proofs.YtmkjcleecjjchaaGreatDoor
open Go.RowKit Sh
set_option maxRecDepth 100000
def Dg.val16 (c:UInt8):Int:=if Dg.val c < 0 then 16 else Dg.val c
theorem Dg.val_num (c:UInt8):48≤c.toNat→c.toNat≤57→Dg.val16 c=n8 c - 48:=
 Dg.of_lt256 (p:=fun c=> 48≤c.toNat→c.toNat≤57→Dg.val16 c=n8 c - 48) (by decide+kernel) c
theorem Dg.val_let (c:UInt8):97≤c.toNat→c.toNat≤102→Dg.val16 c=n8 c - 97+10:=
 Dg.of_lt256 (p:=fun c=> 97≤c.toNat→c.toNat≤102→Dg.val16 c=n8 c - 97+10) (by decide+kernel) c
theorem Dg.val_non (c:UInt8):(c.toNat < 48∨(57 < c.toNat∧c.toNat < 97)∨102 < c.toNat)→Dg.val16 c=16:=
 Dg.of_lt256 (p:=fun c=> (c.toNat < 48∨(57 < c.toNat∧c.toNat < 97)∨102 < c.toNat)→Dg.val16 c=16) (by decide+kernel) c
set_option maxHeartbeats 400000 in
theorem value_any (c:UInt8) (w:World):Calls Tryz.prog 105 #[.int .u8 (n8 c)] w fun e w'=> e= .returned (.int .i64 (Dg.val16 c))∧w=w':=by
 have q0:=n8_nonneg c
 have q1:=n8_lt c
 have hv1:=Dg.val_num c
 have hv2:=Dg.val_let c
 have hv3:=Dg.val_non c
 have hn:(c.toNat:Int)=n8 c:=rfl
 have h1:48≤n8 c→n8 c≤57→Dg.val16 c=n8 c - 48:=fun a b=> hv1 (by omega) (by omega)
 have h2:97≤n8 c→n8 c≤102→Dg.val16 c=n8 c - 97+10:=fun a b=> hv2 (by omega) (by omega)
 have h3:(n8 c < 48∨(57 < n8 c∧n8 c < 97)∨102 < n8 c)→Dg.val16 c=16:=fun a=> hv3 (by omega)
 clear hv1 hv2 hv3 hn
 generalize Dg.val16 c=v at*
 generalize n8 c=n at*
 have hc:(48≤n∧n≤57)∨(97≤n∧n≤102)∨n < 48∨(57 < n∧n < 97)∨102 < n:=by omega
 rcases hc with ⟨a,b⟩ | ⟨a,b⟩ | a | ⟨a,b⟩ | a
 ·have e:=h1 a b
  subst e
  clear h1 h2 h3
  go_enter Tryz.func105,Tryz.ntmps105
  go_wp2
  go_ret
  exact ⟨rfl,rfl⟩
 ·have e:=h2 a b
  subst e
  clear h1 h2 h3
  go_enter Tryz.func105,Tryz.ntmps105
  go_wp2
  go_ret
  exact ⟨rfl,rfl⟩
 ·have e:=h3 (by omega)
  subst e
  clear h1 h2 h3
  go_enter Tryz.func105,Tryz.ntmps105
  go_wp2
  go_ret
  exact ⟨rfl,rfl⟩
 ·have e:=h3 (by omega)
  subst e
  clear h1 h2 h3
  go_enter Tryz.func105,Tryz.ntmps105
  go_wp2
  go_ret
  exact ⟨rfl,rfl⟩
 ·have e:=h3 (by omega)
  subst e
  clear h1 h2 h3
  go_enter Tryz.func105,Tryz.ntmps105
  go_wp2
  go_ret
  exact ⟨rfl,rfl⟩
theorem Dg.parse_cases (s:List UInt8):(s.length≠71∧Dg.parse s=none)∨(s.length=71∧s.take 7≠Dg.pre∧Dg.parse s=none)∨(s.length=71∧s.take 7=Dg.pre∧(s.drop 7).length=64∧Dg.parse s=Dg.unpair (s.drop 7)):=by
 by_cases hp:Lib.hasPrefix s Dg.pre=true
 ·obtain ⟨t,rfl⟩:=(Dg.hasPrefix_iff s).1 hp
  have h7:Dg.pre.length=7:=rfl
  rw [Dg.parse_pre]
  by_cases h:t.length=64
  ·refine .inr (.inr ⟨by rw [List.length_append];omega,by rw [←h7,List.take_left],by rw [←h7,List.drop_left];exact h, ?_⟩)
   rw [if_pos h,←h7,List.drop_left]
  ·exact .inl ⟨by rw [List.length_append];omega,if_neg h⟩
 ·have hn:Dg.parse s=none:=if_neg (fun h=> hp h.1)
  by_cases hl:s.length=71
  ·refine .inr (.inl ⟨hl,fun e=> hp ?_,hn⟩)
   rw [Dg.hasPrefix_iff]
   exact ⟨s.drop 7,by rw [←e,List.take_append_drop]⟩
  ·exact .inl ⟨hl,hn⟩
theorem val16_neg {x:UInt8} (h:Dg.val x < 0):Dg.val16 x=16:=if_pos h
theorem val16_pos {x:UInt8} (h:¬Dg.val x < 0):Dg.val16 x=Dg.val x:=if_neg h
theorem byte_sum (a b:Int) (a0:0≤a) (a1:a < 16) (b0:0≤b) (b1:b < 16) (z:UInt8) (hz:z=UInt8.ofNat (16*a.toNat+b.toNat)):Value.int .u8 (16*a+b)=v8 z:=by
 rw [hz,v8,n8,UInt8.toNat_ofNat']
 congr 1
 omega
set_option maxRecDepth 100000 in
set_option maxHeartbeats 1000000 in
theorem refparse_any (s:List UInt8) (hs:s.length≤1000000000) (w:World):
  Calls Tryz.prog 65 #[.string ⟨s.toArray⟩] w fun e w'=> e= .returned (.tuple #[.agg ((Dg.orZero (Dg.parse s)).map v8).toArray, .bool (Dg.parse s).isSome])∧Below w.heap.size w w':=by
 have hcs:=Dg.parse_cases s
 generalize Dg.parse s=P at*
 have hb:=built_zero
 have hz32:=zero32
 have hZl:(List.replicate 32 (v8 0)).length=32:=rfl
 have hZ1:=oneCell_map v8 (fun _=> rfl) (List.replicate 32 0)
 rw [List.map_replicate]at hZ1
 have r0:Row ((w.alloc (.cells (List.replicate 32 (v8 0)).toArray 25)).alloc (.cells (List.replicate 32 (v8 0)).toArray 25)) w.heap.size 25 (List.replicate 32 (v8 0)):=(Row.at_ _ _ _ rfl rfl).alloc _
 have r1:Row ((w.alloc (.cells (List.replicate 32 (v8 0)).toArray 25)).alloc (.cells (List.replicate 32 (v8 0)).toArray 25)) (w.heap.size+1) 25 (List.replicate 32 (v8 0)):=Row.at_ _ _ _ rfl (by simp)
 have k0:Below w.heap.size w ((w.alloc (.cells (List.replicate 32 (v8 0)).toArray 25)).alloc (.cells (List.replicate 32 (v8 0)).toArray 25)):=((Below.refl _ _).alloc (Nat.le_refl _) _).alloc (by simp) _
 go_enter Tryz.func65,Tryz.ntmps65
 go_upto_region 2 with fail
 generalize hW:World.alloc _ _=W0 at r0 r1 k0
 generalize hW':World.alloc _ _=W0'
 obtain rfl:W0=W0':=hW.symm.trans hW'
 clear hW hW'
 generalize hZ:List.replicate 32 (v8 0)=Z at*
 have HZ32:=Lib.hid hz32
 have HZ:=Lib.hid hZ
 have HB:=Lib.hid hb
 have HZL:=Lib.hid hZl
 have HZ1:=Lib.hid hZ1
 have R0:=Lib.hid r0
 have R1:=Lib.hid r1
 have K0:=Lib.hid k0
 clear hZ hb hZl hZ1 r0 r1 k0 hz32
 rcases hcs with ⟨hl,rfl⟩ | ⟨hl,hp,rfl⟩ | ⟨hl,hp,ht,hP⟩
 ·have hl':((s.length:Int) !=71)=true:=by rw [bne_iff_ne];omega
  clear hl
  go_wp2_with (first
   | ((with_reducible refine load_arr_g ?_ (.tmp 4) ?_ (w.heap.size+1) Z HZL.out ?_ ?_ ?_);rfl;rfl;go_must (rfl;exact R1.out))
   | ((with_reducible refine wpList_store_row ?_ 25 (.tmp 2) (.tmp 16) ?_ w.heap.size Z.toArray ?_ ?_ 25 Z.toArray ?_ ?_ ?_ HZ1.out ?_);rfl;rfl;go_must (rfl;(first | rfl | (rw [←HZ.out];rfl));exact R0.out;(rw [List.size_toArray,HZL.out];kernel_rfl);rfl)))
  exact bodyPost_ret (v:= .tuple #[.agg Z.toArray, .bool false]) (results_row_tmp (fn:=Tryz.f65) (p:=2) (u:=3) rfl _ _ w.heap.size _ Z.toArray _ _ rfl (setRow_heap _ w.heap.size _ _ _ _ R0.out) Tryz.underlying25 rfl (by rw [List.size_toArray,HZL.out];kernel_rfl)) rfl ⟨by rw [HZ32.out];rfl,below_setRow K0.out (Nat.le_refl _) _⟩
 ·have e1:(((⟨s.toArray⟩:ByteArray).extract 0 7).toList==[115,104,97,50,53,54,58])=false:=by
   rw [beq_eq_false_iff_ne,Lib.extract_toList];exact hp
  have HL:=Lib.hid hl
  have hl':((s.length:Int) !=71)=false:=by rw [bne_eq_false_iff_eq];omega
  have hl2:7≤s.length:=by omega
  clear hl hp
  go_wp2_with (first
   | ((with_reducible refine load_arr_g ?_ (.tmp 4) ?_ (w.heap.size+1) Z HZL.out ?_ ?_ ?_);rfl;rfl;go_must (rfl;exact R1.out))
   | ((with_reducible refine wpList_store_row ?_ 25 (.tmp 2) (.tmp 16) ?_ w.heap.size Z.toArray ?_ ?_ 25 Z.toArray ?_ ?_ ?_ HZ1.out ?_);rfl;rfl;go_must (rfl;(first | rfl | (rw [←HZ.out];rfl));exact R0.out;(rw [List.size_toArray,HZL.out];kernel_rfl);rfl)))
  exact bodyPost_ret (v:= .tuple #[.agg Z.toArray, .bool false]) (results_row_tmp (fn:=Tryz.f65) (p:=2) (u:=3) rfl _ _ w.heap.size _ Z.toArray _ _ rfl (setRow_heap _ w.heap.size _ _ _ _ R0.out) Tryz.underlying25 rfl (by rw [List.size_toArray,HZL.out];kernel_rfl)) rfl ⟨by rw [HZ32.out];rfl,below_setRow K0.out (Nat.le_refl _) _⟩
 ·have e1:((⟨s.toArray⟩:ByteArray).extract 0 7).toList=[115,104,97,50,53,54,58]:=by
   rw [Lib.extract_toList];exact hp
  have HL:=Lib.hid hl
  have HT:=Lib.hid ht
  have HPP:=Lib.hid hP
  have hl':((s.length:Int) !=71)=false:=by rw [bne_eq_false_iff_eq];omega
  have hl2:7≤s.length:=by omega
  have h0:ParseAt w W0 (s.drop 7) [] 0:=⟨by rw [HZ.out];exact R0.out,by have h:=R1.out;rw [←HZ.out]at h;exact h,rfl,K0.out,by cases h:Dg.unpair (s.drop 7) <;> simp [h]⟩
  have H0:=Lib.hid h0
  clear hl hp ht hP h0
  go_wp2_with fail
  go_loopw [5] (fun i wr=> ∃(k:Nat) (p:List UInt8),k≤32∧i= .int .i64 k∧Hid (ParseAt w wr (s.drop 7) p k)) (fun i _=> 32 - (intOf i).toNat)
  case atStart=> exact ⟨0,[],Nat.zero_le _,rfl,H0⟩
  case round=>
   obtain ⟨k,p,hk,rfl,hs⟩:=hrel
   by_cases hlt:k < 32
   ·have l0:0≤(k:Int)∧(k:Int) < 32:=by omega
    have g1:(s.drop 7).getD (2*k) 0=s.getD (7+2*k) 0:=by simp [List.getD]
    have g2:(s.drop 7).getD (2*k+1) 0=s.getD (8+2*k) 0:=by
     simp only [List.getD,List.getElem?_drop]
     rw [show 7+(2*k+1)=8+2*k by omega]
    have hi1:∀W,(Instr.index 9 (.string ⟨s.toArray⟩) (.int .i64 (7+2*(k:Int)))).run Tryz.prog W= .ok (.int .u8 (n8 ((s.drop 7).getD (2*k) 0))) W:=fun W=> by
     have h:=index_str s (7+2*k) (by rw [HL.out];omega) W
     rw [g1]
     rwa [Int.natCast_add,Int.natCast_mul]at h
    have hi2:∀W,(Instr.index 9 (.string ⟨s.toArray⟩) (.int .i64 (8+2*(k:Int)))).run Tryz.prog W= .ok (.int .u8 (n8 ((s.drop 7).getD (2*k+1) 0))) W:=fun W=> by
     have h:=index_str s (8+2*k) (by rw [HL.out];omega) W
     rw [g2]
     rwa [Int.natCast_add,Int.natCast_mul]at h
    have hbad:=un_bad hs.out HT.out hlt
    have hgood:=un_good hs.out HT.out hlt
    clear g1 g2
    generalize (s.drop 7).getD (2*k) 0=x at*
    generalize (s.drop 7).getD (2*k+1) 0=y at*
    have hbo:Dg.byteOf x y=UInt8.ofNat (16*(Dg.val x).toNat+(Dg.val y).toNat):=rfl
    have rx:=Dg.val_range x
    have ry:=Dg.val_range y
    have HBAD:=Lib.hid hbad
    have HGOOD:=Lib.hid hgood
    have HBO:=Lib.hid hbo
    clear hbad hgood hbo
    obtain ⟨rx0,rx1⟩:=rx
    obtain ⟨ry0,ry1⟩:=ry
    have HCX:=Lib.hid (value_any x)
    have HCY:=Lib.hid (value_any y)
    by_cases hbd:Dg.val x < 0∨Dg.val y < 0
    ·have hPn:P=none:=by rw [HPP.out,HBAD.out hbd]
     subst hPn
     have hr:=hs.out.res
     rw [HZ.out]at hr
     have HZR:=Lib.hid hr
     have hvs:(Dg.val16 x=16)∨(Dg.val16 x≤15∧Dg.val16 y=16):=by
      by_cases hx0:Dg.val x < 0
      ·exact .inl (val16_neg hx0)
      ·exact .inr ⟨by rw [val16_pos hx0];omega,val16_neg (hbd.resolve_left hx0)⟩
     clear hr hbd
     generalize Dg.val x=vx at*
     generalize Dg.val y=vy at*
     generalize Dg.val16 x=ux at*
     generalize Dg.val16 y=uy at*
     go_wp2_with fail
     refine (HCX.out _).mono ?_
     rintro e w3 ⟨rfl,rfl⟩
     go_wp2_with fail
     refine (HCY.out _).mono ?_
     rintro e w4 ⟨rfl,rfl⟩
     rcases hvs with rfl | ⟨hu,rfl⟩
     all_goals
      go_wp2_with (first
       | ((with_reducible refine wpList_build_is ?_ 25 #[] ?_ Z.toArray ?_ ?_);rfl;rfl;go_must (refine Eq.trans ?_ HB.out;kernel_rfl))
       | ((with_reducible refine wpList_store_row ?_ 25 (.tmp 2) (.tmp 39) ?_ w.heap.size Z.toArray ?_ ?_ 25 Z.toArray ?_ ?_ ?_ HZ1.out ?_);rfl;rfl;go_must (rfl;(first | rfl | (rw [←HZ.out];rfl));exact HZR.out;(rw [List.size_toArray,HZL.out];kernel_rfl);rfl)))
      exact bodyPost_ret (v:= .tuple #[.agg Z.toArray, .bool false]) (results_row_tmp (fn:=Tryz.f65) (p:=2) (u:=3) rfl _ _ w.heap.size _ Z.toArray _ _ rfl (setRow_heap _ w.heap.size _ _ _ _ HZR.out) Tryz.underlying25 rfl (by rw [List.size_toArray,HZL.out];kernel_rfl)) rfl ⟨by first | (rw [HZ32.out];rfl) | rw [HZ32.out],below_setRow hs.out.below (Nat.le_refl _) _⟩
    ·have ex:Dg.val16 x=Dg.val x:=val16_pos (fun h=> hbd (.inl h))
     have ey:Dg.val16 y=Dg.val y:=val16_pos (fun h=> hbd (.inr h))
     have hgx:0≤Dg.val x:=by omega
     have hgy:0≤Dg.val y:=by omega
     rw [ex]at HCX
     rw [ey]at HCY
     have hv:=byte_sum (Dg.val x) (Dg.val y) hgx rx1 hgy ry1 _ HBO.out
     have HV:=Lib.hid hv
     have HBD:=Lib.hid hbd
     clear ex ey hv hbd
     generalize Dg.val x=vx at*
     generalize Dg.val y=vy at*
     obtain ⟨u,hc1⟩:∃u,wr.cell? ⟨w.heap.size+1,k,none⟩=some u:=⟨_,hs.out.row.cell (List.getElem?_eq_getElem (by rw [List.length_map,List.length_append,List.length_replicate,hs.out.len];omega))⟩
     have f1:=hs.out.row.frozen k
     go_wp2_with fail
     refine (HCX.out _).mono ?_
     rintro e w3 ⟨rfl,rfl⟩
     go_wp2_with fail
     refine (HCY.out _).mono ?_
     rintro e w4 ⟨rfl,rfl⟩
     go_wp2_with fail
     go_roundw
     case rel=>
      refine ⟨k+1,p++[Dg.byteOf x y],by omega,by go_num,hs.out.res.other (by simp) _, ?_,by rw [List.length_append,hs.out.len];rfl,hs.out.below.setCell (by simp) _,HGOOD.out HBD.out⟩
      rw [HV.out,←ParseAt.set hs.out.len hlt]
      exact hs.out.row.set k _
     case measure=> simp [intOf] <;> omega
   ·have hge:(32:Int)≤(k:Int):=by omega
    have hk32:k=32:=by omega
    have hw:Row wr (w.heap.size+1) 25 (p.map v8):=by have h:=hs.out.row;rwa [hk32,show 32 - 32=0 from rfl,List.replicate_zero,List.append_nil]at h
    have hz:Row wr w.heap.size 25 Z:=by rw [←HZ.out];exact hs.out.res
    have hPp:P=some p:=by
     rw [HPP.out,hs.out.un,hk32,List.drop_of_length_le (by rw [HT.out];omega)]
     simp [Dg.unpair]
    subst hPp
    have hl:(p.map v8).length=32:=by rw [List.length_map,hs.out.len];omega
    have h1:=oneCell_map v8 (fun _=> rfl) p
    have ho:(Dg.orZero (some p)).map v8=p.map v8:=rfl
    generalize hDD:p.map v8=D at*
    have HO:=Lib.hid ho
    clear ho
    unfold Row at hw hz
    have HW:=Lib.hid hw
    have HZR:=Lib.hid hz
    have HDL:=Lib.hid hl
    have H1:=Lib.hid h1
    clear hw hz hl h1 hk32 hDD
    go_wp2_with (first
     | ((with_reducible refine load_arr_g ?_ (.tmp 4) ?_ (w.heap.size+1) D HDL.out ?_ ?_ ?_);rfl;rfl;go_must (rfl;exact HW.out))
     | ((with_reducible refine wpList_store_row ?_ 25 (.tmp 2) (.tmp 47) ?_ w.heap.size D.toArray ?_ ?_ 25 Z.toArray ?_ ?_ ?_ ?_ ?_);rfl;rfl;go_must (rfl;(first | rfl | (rw [←HZ.out];rfl));exact HZR.out;(simp only [List.size_toArray,HDL.out];kernel_rfl);(simp only [List.size_toArray,HZL.out,HDL.out]);exact H1.out)))
    exact bodyPost_ret (v:= .tuple #[.agg D.toArray, .bool true]) (results_row_tmp (fn:=Tryz.f65) (p:=2) (u:=3) rfl _ _ w.heap.size _ D.toArray _ _ rfl (setRow_heap _ w.heap.size _ _ _ _ HZR.out) Tryz.underlying25 rfl (by rw [List.size_toArray,HDL.out];kernel_rfl)) rfl ⟨by rw [HO.out];rfl,below_setRow hs.out.below (Nat.le_refl _) _⟩
end Go.Proofs.YtmkjcleecjjchaaGreatDoor
