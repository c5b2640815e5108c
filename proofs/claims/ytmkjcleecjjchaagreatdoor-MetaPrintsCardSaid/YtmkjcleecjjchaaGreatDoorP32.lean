import Derived.Test.YtmkjcleecjjchaaGreatDoorP7
import Derived.Test.YtmkjcleecjjchaaGreatDoorP31
import Derived.Lib.LaidU8T
import Derived.Lib.LaidTab
import Derived.LaidSub
import Derived.SizedLaws
import Derived.Deep.Slices
import Derived.Deep.Strs
namespace Go.Proofs.YtmkjcleecjjchaaGreatDoor
instance:Inhabited Js.V:=⟨⟨0,[],[],0⟩⟩
instance:Inhabited Jo.Desc:=⟨Jo.noD⟩
set_option maxRecDepth 100000
open Go.ChangeShapes Go.WideShapes Go.ChangeAt Go.WideMaps Go.WideElems Go.RowKit Go.Deep Sh Jt Js Jo
def listed:List (String×DataW Unit):=[("math/bits.deBruijn32tab",Rows.laid_math_bits_deBruijn32tab),("math/bits.deBruijn64tab",Rows.laid_math_bits_deBruijn64tab),("internal/strconv.uint64pow10",Rows.laid_internal_strconv_uint64pow10),("unicode/utf8.acceptRanges",Rows.laid_unicode_utf8_acceptRanges),("strconv.ErrRange",Rows.laid_strconv_ErrRange),("strconv.ErrSyntax",Rows.laid_strconv_ErrSyntax),("onionskin/json.words",Rows.laid_onionskin_json_words),("unicode/utf8.first",Rows.laid_unicode_utf8_first)]
theorem sb_of (s:ByteArray):sb s.data.toList=s:=by
 apply ByteArray.ext
 simp [sb]
theorem iface_cell {H:Type} {enc:TypeId×Value→H} {W:World} {base:Nat} {sp:Nat→Bool} {held:Bool} {fuel:Nat} {t:TypeId} {cs:List Value} {nm:String} {d:DataW H} {q:List MemPlace} {ms:Array (String×TypeId)}
  (hu:Tryz.prog.underlying t=some (.interface ms)) (h:DataW.trod enc Tryz.prog W base sp held fuel t cs=some (.iface nm d,q)):∃u y,cs=[.iface u y]:=by
 cases fuel with
 | zero=> simp [DataW.trod]at h
 | succ n=>
  unfold DataW.trod at h
  rw [hu]at h
  split at h <;> simp_all
theorem err_of_reads {W:World} {nm:String} {g:Nat} {t2:String} {d:DataW Unit} (hg:Tryz.prog.globalNamed nm=some g) (ht:(Tryz.prog.globals[g]?).map (·.type)=some 80) (h:Lib.VarReads Tryz.prog W nm (.iface t2 d)):∃te pe,W.cell? ⟨g,0,none⟩=some (.iface te pe):=by
 obtain ⟨g',t',cs,fuel,p,hg',ht',hvar,hd⟩:=h
 obtain rfl:=Option.some.inj (hg.symm.trans hg')
 obtain rfl:=Option.some.inj (ht.symm.trans ht')
 obtain ⟨u,y,e⟩:=iface_cell Tryz.underlying80 hd
 refine ⟨u,y, ?_⟩
 rw [World.var?_cell hg hvar 0,←Array.getElem?_toList,e]
 rfl
theorem str_cell {H:Type} {enc:TypeId×Value→H} {W:World} {base:Nat} {sp:Nat→Bool} {held:Bool} {fuel:Nat} {v:Value} {s:List UInt8} {q:List MemPlace}
  (h:DataW.trod enc Tryz.prog W base sp held fuel 9 [v]=some (.lit (.string s),q)):v= .string (sb s):=by
 obtain ⟨b,e,e2,_⟩:=DataW.trod_string Tryz.underlying9 h
 simp only [Prod.mk.injEq,DataW.lit.injEq,Lit.string.injEq]at e2
 rw [e2.1,sb_of]
 simpa using e
theorem words_of_reads {W:World} (h:Lib.VarReads Tryz.prog W "onionskin/json.words" Rows.laid_onionskin_json_words):
  W.cell? ⟨0,0,none⟩=some (.string (sb [110,117,108,108]))∧W.cell? ⟨0,1,none⟩=some (.string (sb [116,114,117,101]))∧W.cell? ⟨0,2,none⟩=some (.string (sb [102,97,108,115,101])):=by
 obtain ⟨g',t',cs,fuel,p,hg',ht',hvar,hd⟩:=h
 have hg:Tryz.prog.globalNamed "onionskin/json.words" =some 0:=by kernel_rfl
 have ht:(Tryz.prog.globals[0]?).map (·.type)=some 108:=by kernel_rfl
 obtain rfl:=Option.some.inj (hg.symm.trans hg')
 obtain rfl:=Option.some.inj (ht.symm.trans ht')
 obtain ⟨xs,m,_,hx,hl,hxl,hat⟩:=DataW.trod_array Tryz.underlying108 hd
 have hc1:Tryz.prog.cellsOf 9=1:=by kernel_rfl
 have hc3:Tryz.prog.cellsOf 108=3:=by kernel_rfl
 rw [hc3]at hl
 rw [hc1]at hat
 simp only [Prod.mk.injEq,Rows.laid_onionskin_json_words,DataW.agg.injEq]at hx
 have a0:=hat 0 (by decide)
 have a1:=hat 1 (by decide)
 have a2:=hat 2 (by decide)
 match xs,hxl with
 | [x0,x1,x2],_=>
  obtain ⟨x0,y0⟩:=x0
  obtain ⟨x1,y1⟩:=x1
  obtain ⟨x2,y2⟩:=x2
  obtain ⟨hx,_⟩:=hx
  simp only [List.map_cons,List.map_nil,List.cons.injEq,and_true]at hx
  obtain ⟨rfl,rfl,rfl⟩:=hx
  have hcs:∃v0 v1 v2,cs.toList=[v0,v1,v2]:=by
   match h:cs.toList,hl with
   | [v0,v1,v2],_=> exact ⟨v0,v1,v2,rfl⟩
  obtain ⟨v0,v1,v2,hcs⟩:=hcs
  rw [hcs]at a0 a1 a2
  have e0:=str_cell a0
  have e1:=str_cell a1
  have e2:=str_cell a2
  refine ⟨?_, ?_, ?_⟩
  ·rw [World.var?_cell hg hvar 0,←Array.getElem?_toList,hcs,←e0]
   rfl
  ·rw [World.var?_cell hg hvar 1,←Array.getElem?_toList,hcs,←e1]
   rfl
  ·rw [World.var?_cell hg hvar 2,←Array.getElem?_toList,hcs,←e2]
   rfl
theorem pow_data:Rows.laid_internal_strconv_uint64pow10 (H:=Unit)=Lib.tabData .u64 Lib.pow10Tab:=rfl
theorem tab_of_laid {W:World} (h:laidMetH Tryz.prog listed W):Lib.TabIs Tryz.prog W "internal/strconv.uint64pow10" .u64 Lib.pow10Tab:=by
 rw [MakeChecks.laidMetH_plain _ _ _ (by kernel_rfl)]at h
 have h2:=laidMet.filter (fun x=> x.1== "internal/strconv.uint64pow10") h
 rw [show listed.filter (fun x=> x.1== "internal/strconv.uint64pow10")=[("internal/strconv.uint64pow10",Rows.laid_internal_strconv_uint64pow10)]from rfl,pow_data]at h2
 exact Lib.tabIs_of_head (g:=4) (t:=203) (by kernel_rfl) (by kernel_rfl) Tryz.underlying203 Tryz.underlying179 (by kernel_rfl) (by kernel_rfl) h2
theorem env_of_laid0 {W:World} (h:laidMetH Tryz.prog listed W) (hp:Lib.TabIs Tryz.prog W "internal/strconv.uint64pow10" .u64 Lib.pow10Tab):MEnv W:=by
 rw [MakeChecks.laidMetH_plain _ _ _ (by kernel_rfl)]at h
 have hr:Lib.VarReads Tryz.prog W "strconv.ErrRange" Rows.laid_strconv_ErrRange:=Lib.laidMet.reads h (by simp [listed])
 have hs:Lib.VarReads Tryz.prog W "strconv.ErrSyntax" Rows.laid_strconv_ErrSyntax:=Lib.laidMet.reads h (by simp [listed])
 have hw:Lib.VarReads Tryz.prog W "onionskin/json.words" Rows.laid_onionskin_json_words:=Lib.laidMet.reads h (by simp [listed])
 have hf:Lib.VarReads Tryz.prog W "unicode/utf8.first" Rows.laid_unicode_utf8_first:=Lib.laidMet.reads h (by simp [listed])
 have ha:Lib.VarReads Tryz.prog W "unicode/utf8.acceptRanges" Rows.laid_unicode_utf8_acceptRanges:=Lib.laidMet.reads h (by simp [listed])
 have er:=err_of_reads (g:=6) (by kernel_rfl) (by kernel_rfl) hr
 have es:=err_of_reads (g:=5) (by kernel_rfl) (by kernel_rfl) hs
 obtain ⟨w0,w1,w2⟩:=words_of_reads hw
 have hf2:Lib.VarReads Tryz.prog W "unicode/utf8.first" Lib.firstData:=by
  rw [←Go.Pinned.utf8First_eq]
  exact hf
 have ha2:Lib.VarReads Tryz.prog W "unicode/utf8.acceptRanges" Lib.acceptData:=by
  have e:Rows.laid_unicode_utf8_acceptRanges (H:=Unit)=Lib.acceptData:=by kernel_rfl
  rw [←e]
  exact ha
 have l1:=World.block_lt_of_cell? W _ w0
 have l2:5 < W.heap.size:=by
  obtain ⟨_,_,c⟩:=es
  exact World.block_lt_of_cell? W _ c
 have l3:6 < W.heap.size:=by
  obtain ⟨_,_,c⟩:=er
  exact World.block_lt_of_cell? W _ c
 exact ⟨⟨⟨es,er⟩,w0,w1,w2,l1,l2,l3⟩,⟨utf8Tabs_of_readsT (U8Types.of196 Tryz.laysV) ⟨by kernel_rfl,by kernel_rfl,by kernel_rfl,by kernel_rfl,by kernel_rfl,by kernel_rfl,by kernel_rfl⟩ hf2 ha2,hp⟩⟩
theorem env_of_laid {W:World} (h:laidMetH Tryz.prog listed W):MEnv W:=env_of_laid0 h (tab_of_laid h)
def valD {H:Type} (v:V):DataW H:= .agg [.lit (.int .i64 v.kind), .lit (.string v.key), .lit (.string v.text), .lit (.int .i64 v.count)]
theorem js_cells4:Tryz.prog.cellsOf 61=4:=by kernel_rfl
theorem weights_all {H:Type} {P:Program} {e:TypeId} {d:DataW H} {n:Nat} (hn:n∈d.weights P e):∀ {ds:List (DataW H)},d∈ds→n∈DataW.weightsAll P e ds
 | a::r,h=> by
  unfold DataW.weightsAll
  rw [List.mem_append]
  rcases List.mem_cons.1 h with rfl | h
  ·exact .inl hn
  ·exact .inr (weights_all hn h)
theorem weights_val {H:Type} (v:V):v.key.length∈(valD (H:=H) v).weights Tryz.prog 61∧v.text.length∈(valD (H:=H) v).weights Tryz.prog 61:=by
 unfold valD
 simp [DataW.weights,Tryz.underlying61,DataW.weightsEach]
theorem bulk_vals {H:Type}:∀L:List V,Short (Rows.uptoBulkAll (L.map (valD (H:=H)))) L∧5*L.length≤Rows.uptoBulkAll (L.map (valD (H:=H)))
 | []=> ⟨(fun _ h=> by cases h),Nat.zero_le _⟩
 | v::r=> by
  obtain ⟨h1,h2⟩:=bulk_vals (H:=H) r
  have e:Rows.uptoBulkAll ((v::r).map (valD (H:=H)))=v.key.length+v.text.length+5+Rows.uptoBulkAll (r.map (valD (H:=H))):=by
   simp only [List.map_cons,valD,Rows.uptoBulkAll,Rows.uptoBulk]
   omega
  rw [e]
  refine ⟨fun x hx=> ?_,by rw [List.length_cons];omega⟩
  rcases List.mem_cons.1 hx with rfl | hx
  ·exact ⟨by omega,by omega⟩
  ·have:=h1 x hx
   exact ⟨by omega,by omega⟩
theorem bulk_in {H:Type} {x:DataW H}:∀ {l:List (DataW H)},x∈l→Rows.uptoBulk x≤Rows.uptoBulkAll l
 | a::r,h=> by
  rw [Rows.uptoBulkAll]
  rcases List.mem_cons.1 h with rfl | h
  ·omega
  ·have:=bulk_in h
   omega
theorem trod_vals {H:Type} {enc:TypeId×Value→H} {W:World} {fuel:Nat} {v:Value} {d:DataW H} {p:List MemPlace}
  (hf:DataW.trod enc Tryz.prog W 0 (fun _=> true) true fuel 29 [v]=some (d,p)) (hsz:∀n∈d.weights Tryz.prog 29,n≤reachBytes):
  ∃(A:Option Addr) (n c:Nat) (L:List V),v= .slice A n c∧ValsAt W A n c L∧n≤140737488351232∧Fits L∧∀B,Rows.uptoBulk d≤B→Short B L∧5*L.length≤B:=by
 rcases open_slice Tryz.underlying29 hf with ⟨hcs,_⟩ | ⟨a,len,cap,m,n,D,Pl,hcs,_,hl,hm,hmm,hx,hi⟩
 ·simp only [List.cons.injEq,and_true]at hcs
  subst hcs
  exact ⟨none,0,0,[],rfl,ValsAt.nil W _ _,Nat.zero_le _,(fun _ h=> by cases h),fun _ _=> ⟨(fun _ h=> by cases h),Nat.zero_le _⟩⟩
 ·simp only [List.cons.injEq,and_true]at hcs
  subst hcs
  simp only [if_true]at hmm
  subst hmm
  have each:∀i,i < len→∃q:V,(∀k u,(vv q)[k]? =some u→W.cell? (a.add (i*4+k))=some u)∧D i=valD q:=fun i hil=> by
   obtain ⟨cs',hc,ht⟩:=hi i (by omega)
   rw [js_cells4]at hc
   obtain ⟨xs,n',_,hy,_,hxl,hfld⟩:=DataW.trod_struct Tryz.underlying61 ht
   obtain ⟨_,hcl,hat⟩:=World.cells?_some hc
   have c9:Tryz.prog.cellsOf 9=1:=by kernel_rfl
   have c3:Tryz.prog.cellsOf 3=1:=by kernel_rfl
   have f0:DataW.trod enc Tryz.prog W 0 (fun _=> true) true n' 3 ((cs'.drop 0).take (Tryz.prog.cellsOf 3))=xs[0]? :=hfld 0 _ rfl
   have f1:DataW.trod enc Tryz.prog W 0 (fun _=> true) true n' 9 ((cs'.drop 1).take (Tryz.prog.cellsOf 9))=xs[1]? :=hfld 1 _ rfl
   have f2:DataW.trod enc Tryz.prog W 0 (fun _=> true) true n' 9 ((cs'.drop 2).take (Tryz.prog.cellsOf 9))=xs[2]? :=hfld 2 _ rfl
   have f3:DataW.trod enc Tryz.prog W 0 (fun _=> true) true n' 3 ((cs'.drop 3).take (Tryz.prog.cellsOf 3))=xs[3]? :=hfld 3 _ rfl
   rw [c3]at f0 f3
   rw [c9]at f1 f2
   match cs',hcl with
   | [k0,k1,k2,k3],_=>
    match xs,hxl with
    | [y0,y1,y2,y3],_=>
     obtain ⟨n0,e0,g0,_⟩:=DataW.trod_int Tryz.underlying3 f0
     obtain ⟨s1,e1,g1,_⟩:=DataW.trod_string Tryz.underlying9 f1
     obtain ⟨s2,e2,g2,_⟩:=DataW.trod_string Tryz.underlying9 f2
     obtain ⟨n3,e3,g3,_⟩:=DataW.trod_int Tryz.underlying3 f3
     have q0:k0= .int .i64 n0:=by simpa using e0
     have q1:k1= .string s1:=by simpa using e1
     have q2:k2= .string s2:=by simpa using e2
     have q3:k3= .int .i64 n3:=by simpa using e3
     refine ⟨⟨n0,s1.data.toList,s2.data.toList,n3⟩,fun k u hu=> ?_, ?_⟩
     ·have hvv:vv ⟨n0,s1.data.toList,s2.data.toList,n3⟩=[k0,k1,k2,k3]:=by
       show [Value.int .i64 n0, .string (sb s1.data.toList), .string (sb s2.data.toList), .int .i64 n3]=_
       rw [sb_of,sb_of,q0,q1,q2,q3]
      rw [hvv]at hu
      have hk:k < 4:=(List.getElem?_eq_some_iff.1 hu).1
      have h0:=hat k hk
      rw [Go.Deep.add_add]at h0
      rw [h0]
      exact hu
     ·simp only [Prod.mk.injEq]at hy
      rw [hy.1]
      show DataW.agg [y0.1,y1.1,y2.1,y3.1]=_
      rw [g0,g1,g2,g3]
      rfl
  obtain ⟨Q,hQ⟩:=choose_lt each
  have hlen:((List.range len).map Q).length=len:=by rw [List.length_map,List.length_range]
  have hd:d= .slice (((List.range len).map Q).map valD) ((List.range (m - len)).map fun j=> D (len+j)):=by
   rw [List.map_map]
   refine (congrArg Prod.fst hx).trans (congrArg (fun e=> DataW.slice e _) ?_)
   exact List.map_congr_left (fun i hi=> (hQ i (List.mem_range.1 hi)).2)
  refine ⟨some a,len,m,(List.range len).map Q,rfl,⟨hlen,hl,fun hpos=> ?_⟩, ?_,(fun q hq=> ?_),fun B hB=> ?_⟩
  ·have h00:=(hQ 0 hpos).1 0 _ rfl
   obtain ⟨b,off,spot⟩:=a
   have hspot:spot=none:=by simpa [Addr.add] using World.cell?_spot h00
   subst hspot
   refine ⟨b,off,rfl,World.block_lt_of_cell? W _ h00,fun j u hj=> ?_⟩
   have hjl:=(List.getElem?_eq_some_iff.1 hj).1
   rw [cellsV_len,hlen]at hjl
   have hi2:j / 4 < len:=by omega
   have hc:=(hQ (j / 4) hi2).1
   have ej:j=j / 4*4+j % 4:=by omega
   rw [ej,cellsV_at _ _ _ (by rw [hlen];exact hi2) (by omega)]at hj
   have hg:((List.range len).map Q)[j / 4]'(by rw [hlen];exact hi2)=Q (j / 4):=by simp
   rw [hg]at hj
   have:=hc _ _ hj
   rw [Addr.add_mid]at this
   rw [ej]
   exact this
  ·rw [hd]at hsz
   have h1:=hsz _ (by unfold DataW.weights;rw [Tryz.underlying29];exact List.mem_cons_self)
   have h2:Tryz.prog.bytesOf 61=48:=by kernel_rfl
   have h3:=reachBytes_lt
   rw [h2,List.length_map,hlen]at h1
   omega
  ·rw [hd]at hsz
   have hin:∀n∈(valD (H:=H) q).weights Tryz.prog 61,n≤reachBytes:=fun n hn=> by
    have h1:=weights_all hn (List.mem_map.2 ⟨q,hq,rfl⟩)
    exact hsz n (by
     unfold DataW.weights
     rw [Tryz.underlying29]
     exact List.mem_cons_of_mem _ (List.mem_append_left _ h1))
   have h3:=reachBytes_lt
   have h4:=hin _ (weights_val q).1
   have h5:=hin _ (weights_val q).2
   omega
  ·rw [hd]at hB
   have hb:Rows.uptoBulkAll (((List.range len).map Q).map (valD (H:=H)))≤B:=by
    simp only [Rows.uptoBulk]at hB
    omega
   have hv:=bulk_vals (H:=H) ((List.range len).map Q)
   exact ⟨fun w hw=> ⟨Nat.le_trans (hv.1 w hw).1 hb,Nat.le_trans (hv.1 w hw).2 hb⟩,Nat.le_trans hv.2 hb⟩
theorem trod_digest {H:Type} {enc:TypeId×Value→H} {W:World} {fuel:Nat} {cs:List Value} {x:DataW H×List MemPlace}
  (h:DataW.trod enc Tryz.prog W 0 (fun _=> true) true fuel 25 cs=some x):∃bs:List UInt8,cs=bs.map v8∧bs.length=32:=by
 obtain ⟨xs,m,rfl,_,hl,hx,he⟩:=DataW.trod_array Tryz.underlying25 h
 rw [show Tryz.prog.cellsOf 25=32 from by kernel_rfl]at hl
 have each:∀i,(hi:i < cs.length)→∃b:UInt8,cs[i]=v8 b:=fun i hi=> by
  have hq:=he i (by omega)
  rw [show Tryz.prog.cellsOf 5=1 from by kernel_rfl,Nat.mul_one]at hq
  rw [List.drop_eq_getElem_cons hi,List.take_succ_cons,List.take_zero,List.getElem?_eq_getElem (by omega)]at hq
  obtain ⟨a,ea,_,wa⟩:=DataW.trod_int Tryz.underlying5 hq
  simp only [List.cons.injEq,and_true]at ea
  have hb:0≤a∧a < 256:=by
   simp [Lit.wf,IntKind.min,IntKind.max,IntKind.signed,IntKind.bits]at wa
   omega
  refine ⟨UInt8.ofNat a.toNat, ?_⟩
  rw [ea,v8,n8,UInt8.toNat_ofNat']
  congr 1
  omega
 have each2:∀l:List Value,(∀i,(hi:i < l.length)→∃b:UInt8,l[i]=v8 b)→∃bs:List UInt8,l=bs.map v8:=by
  intro l
  induction l with
  | nil=> exact fun _=> ⟨[],rfl⟩
  | cons a r ih=>
   intro hh
   obtain ⟨b,hb⟩:=hh 0 (by simp)
   obtain ⟨bs,hbs⟩:=ih (fun i hi=> hh (i+1) (by simpa using hi))
   exact ⟨b::bs,by rw [hbs];simpa using hb⟩
 obtain ⟨bs,rfl⟩:=each2 cs each
 exact ⟨bs,rfl,by simpa using hl⟩
theorem trod_desc {H:Type} {enc:TypeId×Value→H} {W:World} {fuel:Nat} {cs:List Value} {x:DataW H×List MemPlace}
  (h:DataW.trod enc Tryz.prog W 0 (fun _=> true) true fuel 27 cs=some x):∃(q:Desc) (g:DataW H),cs=dv q∧q.dig.length=32∧(-9223372036854775808≤q.size∧q.size≤9223372036854775807)∧x.1= .agg [.lit (.string q.media),g, .lit (.int .i64 q.size)]:=by
 obtain ⟨xs,n,_,hxd,hcl,hxl,hfd⟩:=DataW.trod_struct Tryz.underlying27 h
 rw [show Tryz.prog.cellsOf 27=34 from by kernel_rfl]at hcl
 have c9:Tryz.prog.cellsOf 9=1:=by kernel_rfl
 have c3:Tryz.prog.cellsOf 3=1:=by kernel_rfl
 have c32:Tryz.prog.cellsOf 25=32:=by kernel_rfl
 have f0:DataW.trod enc Tryz.prog W 0 (fun _=> true) true n 9 ((cs.drop 0).take (Tryz.prog.cellsOf 9))=xs[0]? :=hfd 0 _ rfl
 have f1:DataW.trod enc Tryz.prog W 0 (fun _=> true) true n 25 ((cs.drop 1).take (Tryz.prog.cellsOf 25))=xs[1]? :=hfd 1 _ rfl
 have f2:DataW.trod enc Tryz.prog W 0 (fun _=> true) true n 3 ((cs.drop 33).take (Tryz.prog.cellsOf 3))=xs[2]? :=hfd 2 _ rfl
 rw [c9]at f0
 rw [c32]at f1
 rw [c3]at f2
 match xs,hxl with
 | [y0,y1,y2],_=>
  obtain ⟨s0,e0,g0,_⟩:=DataW.trod_string Tryz.underlying9 f0
  obtain ⟨bs,e1,l1⟩:=trod_digest f1
  obtain ⟨n2,e2,g2,w2⟩:=DataW.trod_int Tryz.underlying3 f2
  refine ⟨⟨s0.data.toList,bs,n2⟩,y1.1, ?_,l1, ?_, ?_⟩
  ·have hs:cs=(cs.drop 0).take 1++((cs.drop 1).take 32++(cs.drop 33).take 1):=by
    have a1:(cs.drop 33).take 1=cs.drop 33:=List.take_of_length_le (by rw [List.length_drop,hcl];decide)
    have a2:(cs.drop 1).take 32++cs.drop 33=cs.drop 1:=by
     have:=List.take_append_drop 32 (cs.drop 1)
     rw [List.drop_drop]at this
     exact this
    rw [a1,a2,List.drop_zero,List.take_append_drop]
   rw [hs,e0,e1,e2]
   show [Value.string s0]++(bs.map v8++[.int .i64 n2])= .string (sb s0.data.toList)::(bs.map v8++[.int .i64 n2])
   rw [sb_of]
   rfl
  ·simp [Lit.wf,IntKind.min,IntKind.max,IntKind.signed,IntKind.bits]at w2
   show -9223372036854775808≤n2∧n2≤9223372036854775807
   omega
  ·rw [hxd]
   show DataW.agg [y0.1,y1.1,y2.1]=_
   rw [g0,g2]
theorem mt_cells34:Tryz.prog.cellsOf 27=34:=by kernel_rfl
theorem trod_descs {H:Type} {enc:TypeId×Value→H} {W:World} {fuel:Nat} {v:Value} {d:DataW H} {p:List MemPlace}
  (hf:DataW.trod enc Tryz.prog W 0 (fun _=> true) true fuel 28 [v]=some (d,p)) (hsz:∀n∈d.weights Tryz.prog 28,n≤reachBytes):
  ∃(A:Option Addr) (n c:Nat) (L:List Desc),v= .slice A n c∧DescsAt W A n c L∧n≤140737488351232∧(∀q∈L, -9223372036854775808≤q.size∧q.size≤9223372036854775807)∧(∀q∈L,q.media.length≤140737488355328)∧∀B,Rows.uptoBulk d≤B→∀q∈L,q.media.length≤B:=by
 rcases open_slice Tryz.underlying28 hf with ⟨hcs,_⟩ | ⟨a,len,cap,m,n,D,Pl,hcs,_,hl,hm,hmm,hx,hi⟩
 ·simp only [List.cons.injEq,and_true]at hcs
  subst hcs
  exact ⟨none,0,0,[],rfl,DescsAt.nil W _ _,Nat.zero_le _,(fun _ h=> by cases h),(fun _ h=> by cases h),fun _ _ _ h=> by cases h⟩
 ·simp only [List.cons.injEq,and_true]at hcs
  subst hcs
  simp only [if_true]at hmm
  subst hmm
  have each:∀i,i < len→∃q:Desc,((∀k u,(dv q)[k]? =some u→W.cell? (a.add (i*34+k))=some u)∧q.dig.length=32∧(-9223372036854775808≤q.size∧q.size≤9223372036854775807))∧∃g,D i= .agg [.lit (.string q.media),g, .lit (.int .i64 q.size)]:=fun i hil=> by
   obtain ⟨cs',hc,ht⟩:=hi i (by omega)
   rw [mt_cells34]at hc
   obtain ⟨_,hcl,hat⟩:=World.cells?_some hc
   obtain ⟨q,g,hq,hql,hqs,hxd⟩:=trod_desc ht
   refine ⟨q,⟨fun k u hu=> ?_,hql,hqs⟩,g,hxd⟩
   have hk:k < 34:=by
    have:=(List.getElem?_eq_some_iff.1 hu).1
    rwa [dv_len hql]at this
   have h0:=hat k hk
   rw [Go.Deep.add_add]at h0
   rw [h0,hq]
   exact hu
  obtain ⟨Q,hQ⟩:=choose_lt each
  have hlen:((List.range len).map Q).length=len:=by rw [List.length_map,List.length_range]
  have hdig:Dig32 ((List.range len).map Q):=fun q hq=> by
   obtain ⟨i,hi,rfl⟩:=List.mem_map.1 hq
   exact (hQ i (List.mem_range.1 hi)).1.2.1
  have hd:d= .slice ((List.range len).map D) ((List.range (m - len)).map fun j=> D (len+j)):=congrArg Prod.fst hx
  rw [hd]at hsz
  have h3:=reachBytes_lt
  refine ⟨some a,len,m,(List.range len).map Q,rfl,⟨hlen,hl,hdig,fun hpos=> ?_⟩, ?_,(fun q hq=> ?_),(fun q hq=> ?_),fun B hB q hq=> ?_⟩
  ·have h00:=(hQ 0 hpos).1.1 0 _ rfl
   obtain ⟨b,off,spot⟩:=a
   have hspot:spot=none:=by simpa [Addr.add] using World.cell?_spot h00
   subst hspot
   refine ⟨b,off,rfl,World.block_lt_of_cell? W _ h00,fun j u hj=> ?_⟩
   have hjl:=(List.getElem?_eq_some_iff.1 hj).1
   rw [cellsD_len hdig,hlen]at hjl
   have hi2:j / 34 < len:=by omega
   have hc:=(hQ (j / 34) hi2).1.1
   have ej:j=j / 34*34+j % 34:=by omega
   rw [ej,cellsD_at hdig _ _ (by rw [hlen];exact hi2) (by omega)]at hj
   have hg:((List.range len).map Q)[j / 34]'(by rw [hlen];exact hi2)=Q (j / 34):=by simp
   rw [hg]at hj
   have:=hc _ _ hj
   rw [Addr.add_mid]at this
   rw [ej]
   exact this
  ·have h1:=hsz _ (by unfold DataW.weights;rw [Tryz.underlying28];exact List.mem_cons_self)
   have h2:Tryz.prog.bytesOf 27=56:=by kernel_rfl
   rw [h2,List.length_map,List.length_range]at h1
   omega
  ·obtain ⟨i,hi,rfl⟩:=List.mem_map.1 hq
   exact (hQ i (List.mem_range.1 hi)).1.2.2
  ·obtain ⟨i,hi,rfl⟩:=List.mem_map.1 hq
   obtain ⟨g,hg⟩:=(hQ i (List.mem_range.1 hi)).2
   have hin:(Q i).media.length∈(D i).weights Tryz.prog 27:=by
    rw [hg]
    simp [DataW.weights,Tryz.underlying27,DataW.weightsEach]
   have h1:=weights_all hin (List.mem_map.2 ⟨i,hi,rfl⟩)
   have h4:=hsz _ (by
    unfold DataW.weights
    rw [Tryz.underlying28]
    exact List.mem_cons_of_mem _ (List.mem_append_left _ h1))
   omega
  ·rw [hd]at hB
   obtain ⟨i,hi,rfl⟩:=List.mem_map.1 hq
   obtain ⟨g,hg⟩:=(hQ i (List.mem_range.1 hi)).2
   have h1:=bulk_in (List.mem_map.2 ⟨i,hi,rfl⟩:D i∈(List.range len).map D)
   rw [hg]at h1
   simp only [Rows.uptoBulk,Rows.uptoBulkAll]at h1 hB
   omega
theorem each_le {H:Type} {ts:List TypeId} {ds:List (DataW H)} (hsz:(DataW.weightsEach Tryz.prog ts ds).all (·≤reachBytes)=true) {j:Nat} {t:TypeId} {d:DataW H} (hts:ts[j]? =some t) (hds:ds[j]? =some d):∀n∈d.weights Tryz.prog t,n≤reachBytes:=fun n hn=> by
 have:=List.all_eq_true.1 hsz n (DataW.weights_mem_each hts hds n hn)
 simpa using this
theorem open_man {H:Type} {enc:TypeId×Value→H} {W:World} {base:Nat} {v:Value} {d:DataW H} {p:List MemPlace} (hv:Value.okWide Tryz.prog W .any base 31 v)
  (h:DataW.Trod enc Tryz.prog W 0 (fun _=> true) true 31 v d p) (hsz:∀n∈d.weights Tryz.prog 31,n≤reachBytes):
  ∃(m:Man) (A1:Option Addr) (n1 c1:Nat) (A2:Option Addr) (n2 c2:Nat),v= .agg (mv m.config (.slice A1 n1 c1) (.slice A2 n2 c2)).toArray∧ManIn W m A1 n1 c1 A2 n2 c2∧n1≤140737488351232∧n2≤140737488351232∧Holds m∧Words m∧(Rows.uptoBulk d≤1048576→FitM m):=by
 obtain ⟨cs,rfl,hsize⟩:=okWide_struct Tryz.underlying31 hv
 rw [show Tryz.prog.cellsOf 31=36 from by kernel_rfl]at hsize
 obtain ⟨l⟩:=cs
 obtain ⟨fuel,hf⟩:=h
 change DataW.trod enc Tryz.prog W 0 (fun _=> true) true fuel 31 l=_ at hf
 replace hsize:l.length=36:=hsize
 obtain ⟨xs,n,_,hxd,_,hxl,hfd⟩:=DataW.trod_struct Tryz.underlying31 hf
 have c34:Tryz.prog.cellsOf 27=34:=by kernel_rfl
 have cD:Tryz.prog.cellsOf 28=1:=by kernel_rfl
 have cV:Tryz.prog.cellsOf 29=1:=by kernel_rfl
 have f0:DataW.trod enc Tryz.prog W 0 (fun _=> true) true n 27 ((l.drop 0).take (Tryz.prog.cellsOf 27))=xs[0]? :=hfd 0 _ rfl
 have f1:DataW.trod enc Tryz.prog W 0 (fun _=> true) true n 28 ((l.drop 34).take (Tryz.prog.cellsOf 28))=xs[1]? :=hfd 1 _ rfl
 have f2:DataW.trod enc Tryz.prog W 0 (fun _=> true) true n 29 ((l.drop 35).take (Tryz.prog.cellsOf 29))=xs[2]? :=hfd 2 _ rfl
 rw [c34]at f0
 rw [cD]at f1
 rw [cV]at f2
 rw [List.drop_eq_getElem_cons (by omega),List.take_succ_cons,List.take_zero]at f1 f2
 match xs,hxl with
 | [y0,y1,y2],_=>
  simp only [Prod.mk.injEq]at hxd
  have hdd:d= .agg [y0.1,y1.1,y2.1]:=hxd.1
  subst hdd
  have wm:∀n,(n∈y0.1.weights Tryz.prog 27∨n∈y1.1.weights Tryz.prog 28∨n∈y2.1.weights Tryz.prog 29)→n≤reachBytes:=fun n hn=> hsz n (by
   rw [DataW.weights,Tryz.underlying31]
   simp only [DataW.weightsEach,List.map_cons,List.map_nil,List.mem_append]
   exact hn.elim .inl (fun h=> .inr (h.elim .inl (fun h=> .inr (.inl h)))))
  obtain ⟨c,g,hc,hcl,hcs,hcd⟩:=trod_desc (x:=y0) f0
  obtain ⟨A1,n1,c1,L1,e1,hL1,hn1,hw1,hm1,hbd⟩:=trod_descs (d:=y1.1) (p:=y1.2) f1 (fun n hn=> wm n (.inr (.inl hn)))
  obtain ⟨A2,n2,c2,L2,e2,hL2,hn2,hs2,hbv⟩:=trod_vals (d:=y2.1) (p:=y2.2) f2 (fun n hn=> wm n (.inr (.inr hn)))
  have h3:=reachBytes_lt
  have hmc:=wm c.media.length (.inl (by rw [hcd];simp [DataW.weights,Tryz.underlying27,DataW.weightsEach]))
  refine ⟨⟨c,L1,L2⟩,A1,n1,c1,A2,n2,c2, ?_,⟨hL1,hL2,hcl⟩,hn1,hn2,⟨hs2,by show c.media.length≤_;omega,hm1⟩,⟨hcs,hw1⟩,fun hB=> ?_⟩
  rotate_left
  ·simp only [Rows.uptoBulk,Rows.uptoBulkAll]at hB
   have hb0:c.media.length≤Rows.uptoBulk y0.1:=by
    rw [hcd]
    simp only [Rows.uptoBulk,Rows.uptoBulkAll]
    omega
   obtain ⟨hv1,hv2⟩:=hbv 1048576 (by omega)
   exact ⟨⟨(show c.media.length≤1048576 by omega),hcs⟩,fun d hd=> ⟨hbd 1048576 (by omega) d hd,hw1 d hd⟩,hv1,by show L2.length≤250000;omega⟩
  have hl:l=(l.drop 0).take 34++[l[34],l[35]]:=by
   have a1:l.drop 34=[l[34],l[35]]:=by
    rw [List.drop_eq_getElem_cons (by omega),List.drop_eq_getElem_cons (by omega),List.drop_eq_nil_of_le (by omega)]
   rw [←a1,List.drop_zero,List.take_append_drop]
  show Value.agg ⟨l⟩= .agg (dv c++[Value.slice A1 n1 c1,Value.slice A2 n2 c2]).toArray
  rw [←e1,←e2,←hc]
  exact congrArg (fun z=> Value.agg ⟨z⟩) hl
end Go.Proofs.YtmkjcleecjjchaaGreatDoor
