import Derived.Test.YtgmangikcfakgaaGreatDoorPP7
import Derived.Test.YtgmangikcfakgaaGreatDoorPP19
import Derived.Test.YtgmangikcfakgaaGreatDoorPP34
import Derived.Test.YtgmangikcfakgaaGreatDoorPP14
import Derived.Lib.LaidU8T
import Derived.Lib.LaidTab
import Derived.LaidSub
import Derived.SizedLaws
import Derived.Deep.Slices
import Derived.Deep.Strs
import Derived.Deep.Grids
namespace Go.Proofs.YtgmangikcfakgaaGreatDoor
instance:Inhabited Js.V:=⟨⟨0,[],[],0⟩⟩
set_option maxRecDepth 100000
open Go.ChangeShapes Go.WideShapes Go.ChangeAt Go.WideMaps Go.WideElems Go.RowKit Go.Deep Sh Jt Js Jo
def listed:List (String×DataW Unit):=[("math/bits.deBruijn32tab",Rows.laid_math_bits_deBruijn32tab),("math/bits.deBruijn64tab",Rows.laid_math_bits_deBruijn64tab),("internal/strconv.uint64pow10",Rows.laid_internal_strconv_uint64pow10),("unicode/utf8.acceptRanges",Rows.laid_unicode_utf8_acceptRanges),("strconv.ErrRange",Rows.laid_strconv_ErrRange),("strconv.ErrSyntax",Rows.laid_strconv_ErrSyntax),("onionskin/json.words",Rows.laid_onionskin_json_words),("unicode/utf8.first",Rows.laid_unicode_utf8_first)]
theorem sb_of (s:ByteArray):sb s.data.toList=s:=by
 apply ByteArray.ext
 simp [sb]
theorem iface_cell {H:Type} {enc:TypeId×Value→H} {W:World} {base:Nat} {sp:Nat→Bool} {held:Bool} {fuel:Nat} {t:TypeId} {cs:List Value} {nm:String} {d:DataW H} {q:List MemPlace} {ms:Array (String×TypeId)}
  (hu:Tryz.prog.underlying t=some (.interface ms)) (h:DataW.trod enc Tryz.prog W base sp held fuel t cs=some (.iface nm d,q)):∃u y,cs=[.iface u y]:=by
 cases fuel with
 | zero=> simp [DataW.trod]at h
 | succ n=>
  unfold DataW.trod at h
  rw [hu]at h
  split at h <;> simp_all
theorem err_of_reads {W:World} {nm:String} {g:Nat} {t2:String} {d:DataW Unit} (hg:Tryz.prog.globalNamed nm=some g) (ht:(Tryz.prog.globals[g]?).map (·.type)=some 80) (h:Lib.VarReads Tryz.prog W nm (.iface t2 d)):∃te pe,W.cell? ⟨g,0,none⟩=some (.iface te pe):=by
 obtain ⟨g',t',cs,fuel,p,hg',ht',hvar,hd⟩:=h
 obtain rfl:=Option.some.inj (hg.symm.trans hg')
 obtain rfl:=Option.some.inj (ht.symm.trans ht')
 obtain ⟨u,y,e⟩:=iface_cell Tryz.underlying80 hd
 refine ⟨u,y, ?_⟩
 rw [World.var?_cell hg hvar 0,←Array.getElem?_toList,e]
 rfl
theorem str_cell {H:Type} {enc:TypeId×Value→H} {W:World} {base:Nat} {sp:Nat→Bool} {held:Bool} {fuel:Nat} {v:Value} {s:List UInt8} {q:List MemPlace}
  (h:DataW.trod enc Tryz.prog W base sp held fuel 9 [v]=some (.lit (.string s),q)):v= .string (sb s):=by
 obtain ⟨b,e,e2,_⟩:=DataW.trod_string Tryz.underlying9 h
 simp only [Prod.mk.injEq,DataW.lit.injEq,Lit.string.injEq]at e2
 rw [e2.1,sb_of]
 simpa using e
theorem words_of_reads {W:World} (h:Lib.VarReads Tryz.prog W "onionskin/json.words" Rows.laid_onionskin_json_words):
  W.cell? ⟨0,0,none⟩=some (.string (sb [110,117,108,108]))∧W.cell? ⟨0,1,none⟩=some (.string (sb [116,114,117,101]))∧W.cell? ⟨0,2,none⟩=some (.string (sb [102,97,108,115,101])):=by
 obtain ⟨g',t',cs,fuel,p,hg',ht',hvar,hd⟩:=h
 have hg:Tryz.prog.globalNamed "onionskin/json.words" =some 0:=by kernel_rfl
 have ht:(Tryz.prog.globals[0]?).map (·.type)=some 122:=by kernel_rfl
 obtain rfl:=Option.some.inj (hg.symm.trans hg')
 obtain rfl:=Option.some.inj (ht.symm.trans ht')
 obtain ⟨xs,m,_,hx,hl,hxl,hat⟩:=DataW.trod_array Tryz.underlying122 hd
 have hc1:Tryz.prog.cellsOf 9=1:=by kernel_rfl
 have hc3:Tryz.prog.cellsOf 122=3:=by kernel_rfl
 rw [hc3]at hl
 rw [hc1]at hat
 simp only [Prod.mk.injEq,Rows.laid_onionskin_json_words,DataW.agg.injEq]at hx
 have a0:=hat 0 (by decide)
 have a1:=hat 1 (by decide)
 have a2:=hat 2 (by decide)
 match xs,hxl with
 | [x0,x1,x2],_=>
  obtain ⟨x0,y0⟩:=x0
  obtain ⟨x1,y1⟩:=x1
  obtain ⟨x2,y2⟩:=x2
  obtain ⟨hx,_⟩:=hx
  simp only [List.map_cons,List.map_nil,List.cons.injEq,and_true]at hx
  obtain ⟨rfl,rfl,rfl⟩:=hx
  have hcs:∃v0 v1 v2,cs.toList=[v0,v1,v2]:=by
   match h:cs.toList,hl with
   | [v0,v1,v2],_=> exact ⟨v0,v1,v2,rfl⟩
  obtain ⟨v0,v1,v2,hcs⟩:=hcs
  rw [hcs]at a0 a1 a2
  have e0:=str_cell a0
  have e1:=str_cell a1
  have e2:=str_cell a2
  refine ⟨?_, ?_, ?_⟩
  ·rw [World.var?_cell hg hvar 0,←Array.getElem?_toList,hcs,←e0]
   rfl
  ·rw [World.var?_cell hg hvar 1,←Array.getElem?_toList,hcs,←e1]
   rfl
  ·rw [World.var?_cell hg hvar 2,←Array.getElem?_toList,hcs,←e2]
   rfl
theorem env_of_laid {W:World} (h:laidMetH Tryz.prog listed W):CEnv W:=by
 rw [MakeChecks.laidMetH_plain _ _ _ (by kernel_rfl)]at h
 have hr:Lib.VarReads Tryz.prog W "strconv.ErrRange" Rows.laid_strconv_ErrRange:=Lib.laidMet.reads h (by simp [listed])
 have hs:Lib.VarReads Tryz.prog W "strconv.ErrSyntax" Rows.laid_strconv_ErrSyntax:=Lib.laidMet.reads h (by simp [listed])
 have hw:Lib.VarReads Tryz.prog W "onionskin/json.words" Rows.laid_onionskin_json_words:=Lib.laidMet.reads h (by simp [listed])
 have hf:Lib.VarReads Tryz.prog W "unicode/utf8.first" Rows.laid_unicode_utf8_first:=Lib.laidMet.reads h (by simp [listed])
 have ha:Lib.VarReads Tryz.prog W "unicode/utf8.acceptRanges" Rows.laid_unicode_utf8_acceptRanges:=Lib.laidMet.reads h (by simp [listed])
 have er:=err_of_reads (g:=5) (by kernel_rfl) (by kernel_rfl) hr
 have es:=err_of_reads (g:=4) (by kernel_rfl) (by kernel_rfl) hs
 obtain ⟨w0,w1,w2⟩:=words_of_reads hw
 have hf2:Lib.VarReads Tryz.prog W "unicode/utf8.first" Lib.firstData:=by
  rw [←Go.Pinned.utf8First_eq]
  exact hf
 have ha2:Lib.VarReads Tryz.prog W "unicode/utf8.acceptRanges" Lib.acceptData:=by
  have e:Rows.laid_unicode_utf8_acceptRanges (H:=Unit)=Lib.acceptData:=by kernel_rfl
  rw [←e]
  exact ha
 have l1:=World.block_lt_of_cell? W _ w0
 have l2:4 < W.heap.size:=by
  obtain ⟨_,_,c⟩:=es
  exact World.block_lt_of_cell? W _ c
 have l3:5 < W.heap.size:=by
  obtain ⟨_,_,c⟩:=er
  exact World.block_lt_of_cell? W _ c
 exact ⟨⟨⟨es,er⟩,w0,w1,w2,l1,l2,l3⟩,utf8Tabs_of_readsT (U8Types.of196 Tryz.laysV) ⟨by kernel_rfl,by kernel_rfl,by kernel_rfl,by kernel_rfl,by kernel_rfl,by kernel_rfl,by kernel_rfl⟩ hf2 ha2⟩
def valD {H:Type} (v:V):DataW H:= .agg [.lit (.int .i64 v.kind), .lit (.string v.key), .lit (.string v.text), .lit (.int .i64 v.count)]
theorem js_cells4:Tryz.prog.cellsOf 72=4:=by kernel_rfl
theorem weights_all {H:Type} {P:Program} {e:TypeId} {d:DataW H} {n:Nat} (hn:n∈d.weights P e):∀ {ds:List (DataW H)},d∈ds→n∈DataW.weightsAll P e ds
 | a::r,h=> by
  unfold DataW.weightsAll
  rw [List.mem_append]
  rcases List.mem_cons.1 h with rfl | h
  ·exact .inl hn
  ·exact .inr (weights_all hn h)
theorem weights_val {H:Type} (v:V):v.key.length∈(valD (H:=H) v).weights Tryz.prog 72∧v.text.length∈(valD (H:=H) v).weights Tryz.prog 72:=by
 unfold valD
 simp [DataW.weights,Tryz.underlying72,DataW.weightsEach]
theorem bulk_vals {H:Type}:∀L:List V,Short (Rows.uptoBulkAll (L.map (valD (H:=H)))) L∧5*L.length≤Rows.uptoBulkAll (L.map (valD (H:=H)))
 | []=> ⟨(fun _ h=> by cases h),Nat.zero_le _⟩
 | v::r=> by
  obtain ⟨h1,h2⟩:=bulk_vals (H:=H) r
  have e:Rows.uptoBulkAll ((v::r).map (valD (H:=H)))=v.key.length+v.text.length+5+Rows.uptoBulkAll (r.map (valD (H:=H))):=by
   simp only [List.map_cons,valD,Rows.uptoBulkAll,Rows.uptoBulk]
   omega
  rw [e]
  refine ⟨fun x hx=> ?_,by rw [List.length_cons];omega⟩
  rcases List.mem_cons.1 hx with rfl | hx
  ·exact ⟨by omega,by omega⟩
  ·have:=h1 x hx
   exact ⟨by omega,by omega⟩
theorem trod_vals {H:Type} {enc:TypeId×Value→H} {W:World} {fuel:Nat} {v:Value} {d:DataW H} {p:List MemPlace}
  (hf:DataW.trod enc Tryz.prog W 0 (fun _=> true) true fuel 26 [v]=some (d,p)) (hsz:∀n∈d.weights Tryz.prog 26,n≤reachBytes):
  ∃(A:Option Addr) (n c:Nat) (L:List V),v= .slice A n c∧ValsAt W A n c L∧n≤140737488351232∧Fits L∧∀B,Rows.uptoBulk d≤B→Short B L∧5*L.length≤B:=by
 rcases open_slice Tryz.underlying26 hf with ⟨hcs,_⟩ | ⟨a,len,cap,m,n,D,Pl,hcs,_,hl,hm,hmm,hx,hi⟩
 ·simp only [List.cons.injEq,and_true]at hcs
  subst hcs
  exact ⟨none,0,0,[],rfl,ValsAt.nil W _ _,Nat.zero_le _,(fun _ h=> by cases h),fun _ _=> ⟨(fun _ h=> by cases h),Nat.zero_le _⟩⟩
 ·simp only [List.cons.injEq,and_true]at hcs
  subst hcs
  simp only [if_true]at hmm
  subst hmm
  have each:∀i,i < len→∃q:V,(∀k u,(vv q)[k]? =some u→W.cell? (a.add (i*4+k))=some u)∧D i=valD q:=fun i hil=> by
   obtain ⟨cs',hc,ht⟩:=hi i (by omega)
   rw [js_cells4]at hc
   obtain ⟨xs,n',_,hy,_,hxl,hfld⟩:=DataW.trod_struct Tryz.underlying72 ht
   obtain ⟨_,hcl,hat⟩:=World.cells?_some hc
   have c9:Tryz.prog.cellsOf 9=1:=by kernel_rfl
   have c3:Tryz.prog.cellsOf 3=1:=by kernel_rfl
   have f0:DataW.trod enc Tryz.prog W 0 (fun _=> true) true n' 3 ((cs'.drop 0).take (Tryz.prog.cellsOf 3))=xs[0]? :=hfld 0 _ rfl
   have f1:DataW.trod enc Tryz.prog W 0 (fun _=> true) true n' 9 ((cs'.drop 1).take (Tryz.prog.cellsOf 9))=xs[1]? :=hfld 1 _ rfl
   have f2:DataW.trod enc Tryz.prog W 0 (fun _=> true) true n' 9 ((cs'.drop 2).take (Tryz.prog.cellsOf 9))=xs[2]? :=hfld 2 _ rfl
   have f3:DataW.trod enc Tryz.prog W 0 (fun _=> true) true n' 3 ((cs'.drop 3).take (Tryz.prog.cellsOf 3))=xs[3]? :=hfld 3 _ rfl
   rw [c3]at f0 f3
   rw [c9]at f1 f2
   match cs',hcl with
   | [k0,k1,k2,k3],_=>
    match xs,hxl with
    | [y0,y1,y2,y3],_=>
     obtain ⟨n0,e0,g0,_⟩:=DataW.trod_int Tryz.underlying3 f0
     obtain ⟨s1,e1,g1,_⟩:=DataW.trod_string Tryz.underlying9 f1
     obtain ⟨s2,e2,g2,_⟩:=DataW.trod_string Tryz.underlying9 f2
     obtain ⟨n3,e3,g3,_⟩:=DataW.trod_int Tryz.underlying3 f3
     have q0:k0= .int .i64 n0:=by simpa using e0
     have q1:k1= .string s1:=by simpa using e1
     have q2:k2= .string s2:=by simpa using e2
     have q3:k3= .int .i64 n3:=by simpa using e3
     refine ⟨⟨n0,s1.data.toList,s2.data.toList,n3⟩,fun k u hu=> ?_, ?_⟩
     ·have hvv:vv ⟨n0,s1.data.toList,s2.data.toList,n3⟩=[k0,k1,k2,k3]:=by
       show [Value.int .i64 n0, .string (sb s1.data.toList), .string (sb s2.data.toList), .int .i64 n3]=_
       rw [sb_of,sb_of,q0,q1,q2,q3]
      rw [hvv]at hu
      have hk:k < 4:=(List.getElem?_eq_some_iff.1 hu).1
      have h0:=hat k hk
      rw [Go.Deep.add_add]at h0
      rw [h0]
      exact hu
     ·simp only [Prod.mk.injEq]at hy
      rw [hy.1]
      show DataW.agg [y0.1,y1.1,y2.1,y3.1]=_
      rw [g0,g1,g2,g3]
      rfl
  obtain ⟨Q,hQ⟩:=choose_lt each
  have hlen:((List.range len).map Q).length=len:=by rw [List.length_map,List.length_range]
  have hd:d= .slice (((List.range len).map Q).map valD) ((List.range (m - len)).map fun j=> D (len+j)):=by
   rw [List.map_map]
   refine (congrArg Prod.fst hx).trans (congrArg (fun e=> DataW.slice e _) ?_)
   exact List.map_congr_left (fun i hi=> (hQ i (List.mem_range.1 hi)).2)
  refine ⟨some a,len,m,(List.range len).map Q,rfl,⟨hlen,hl,fun hpos=> ?_⟩, ?_,(fun q hq=> ?_),fun B hB=> ?_⟩
  ·have h00:=(hQ 0 hpos).1 0 _ rfl
   obtain ⟨b,off,spot⟩:=a
   have hspot:spot=none:=by simpa [Addr.add] using World.cell?_spot h00
   subst hspot
   refine ⟨b,off,rfl,World.block_lt_of_cell? W _ h00,fun j u hj=> ?_⟩
   have hjl:=(List.getElem?_eq_some_iff.1 hj).1
   rw [cellsV_len,hlen]at hjl
   have hi2:j / 4 < len:=by omega
   have hc:=(hQ (j / 4) hi2).1
   have ej:j=j / 4*4+j % 4:=by omega
   rw [ej,cellsV_at _ _ _ (by rw [hlen];exact hi2) (by omega)]at hj
   have hg:((List.range len).map Q)[j / 4]'(by rw [hlen];exact hi2)=Q (j / 4):=by simp
   rw [hg]at hj
   have:=hc _ _ hj
   rw [Addr.add_mid]at this
   rw [ej]
   exact this
  ·rw [hd]at hsz
   have h1:=hsz _ (by unfold DataW.weights;rw [Tryz.underlying26];exact List.mem_cons_self)
   have h2:Tryz.prog.bytesOf 72=48:=by kernel_rfl
   have h3:=reachBytes_lt
   rw [h2,List.length_map,hlen]at h1
   omega
  ·rw [hd]at hsz
   have hin:∀n∈(valD (H:=H) q).weights Tryz.prog 72,n≤reachBytes:=fun n hn=> by
    have h1:=weights_all hn (List.mem_map.2 ⟨q,hq,rfl⟩)
    exact hsz n (by
     unfold DataW.weights
     rw [Tryz.underlying26]
     exact List.mem_cons_of_mem _ (List.mem_append_left _ h1))
   have h3:=reachBytes_lt
   have h4:=hin _ (weights_val q).1
   have h5:=hin _ (weights_val q).2
   omega
  ·rw [hd]at hB
   have hb:Rows.uptoBulkAll (((List.range len).map Q).map (valD (H:=H)))≤B:=by
    simp only [Rows.uptoBulk]at hB
    omega
   have hv:=bulk_vals (H:=H) ((List.range len).map Q)
   exact ⟨fun w hw=> ⟨Nat.le_trans (hv.1 w hw).1 hb,Nat.le_trans (hv.1 w hw).2 hb⟩,Nat.le_trans hv.2 hb⟩
theorem trod_digest {H:Type} {enc:TypeId×Value→H} {W:World} {fuel:Nat} {cs:List Value} {x:DataW H×List MemPlace}
  (h:DataW.trod enc Tryz.prog W 0 (fun _=> true) true fuel 52 cs=some x):∃bs:List UInt8,cs=bs.map v8∧bs.length=32:=by
 obtain ⟨xs,m,rfl,_,hl,hx,he⟩:=DataW.trod_array Tryz.underlying52 h
 rw [show Tryz.prog.cellsOf 52=32 from by kernel_rfl]at hl
 have each:∀i,(hi:i < cs.length)→∃b:UInt8,cs[i]=v8 b:=fun i hi=> by
  have hq:=he i (by omega)
  rw [show Tryz.prog.cellsOf 5=1 from by kernel_rfl,Nat.mul_one]at hq
  rw [List.drop_eq_getElem_cons hi,List.take_succ_cons,List.take_zero,List.getElem?_eq_getElem (by omega)]at hq
  obtain ⟨a,ea,_,wa⟩:=DataW.trod_int Tryz.underlying5 hq
  simp only [List.cons.injEq,and_true]at ea
  have hb:0≤a∧a < 256:=by
   simp [Lit.wf,IntKind.min,IntKind.max,IntKind.signed,IntKind.bits]at wa
   omega
  refine ⟨UInt8.ofNat a.toNat, ?_⟩
  rw [ea,v8,n8,UInt8.toNat_ofNat']
  congr 1
  omega
 have each2:∀l:List Value,(∀i,(hi:i < l.length)→∃b:UInt8,l[i]=v8 b)→∃bs:List UInt8,l=bs.map v8:=by
  intro l
  induction l with
  | nil=> exact fun _=> ⟨[],rfl⟩
  | cons a r ih=>
   intro hh
   obtain ⟨b,hb⟩:=hh 0 (by simp)
   obtain ⟨bs,hbs⟩:=ih (fun i hi=> hh (i+1) (by simpa using hi))
   exact ⟨b::bs,by rw [hbs];simpa using hb⟩
 obtain ⟨bs,rfl⟩:=each2 cs each
 exact ⟨bs,rfl,by simpa using hl⟩
theorem each_le {H:Type} {ts:List TypeId} {ds:List (DataW H)} (hsz:(DataW.weightsEach Tryz.prog ts ds).all (·≤reachBytes)=true) {j:Nat} {t:TypeId} {d:DataW H} (hts:ts[j]? =some t) (hds:ds[j]? =some d):∀n∈d.weights Tryz.prog t,n≤reachBytes:=fun n hn=> by
 have:=List.all_eq_true.1 hsz n (DataW.weights_mem_each hts hds n hn)
 simpa using this
theorem trod_hist {H:Type} {enc:TypeId×Value→H} {W:World} {fuel:Nat} {cs:List Value} {x:DataW H×List MemPlace}
  (h:DataW.trod enc Tryz.prog W 0 (fun _=> true) true fuel 42 cs=some x) (hsz:∀n∈x.1.weights Tryz.prog 42,n≤reachBytes):
  ∃q:Pe,cs=q.enc∧ValsAt W q.rest.at_ q.rest.row.length q.rest.cap q.rest.row∧q.who.length≤140737488355328∧Fits q.rest.row∧q.rest.row.length≤140737488351232:=by
 obtain ⟨xs,n,_,hxd,hcl,hxl,hfd⟩:=DataW.trod_struct Tryz.underlying42 h
 rw [show Tryz.prog.cellsOf 42=3 from by kernel_rfl]at hcl
 have c9:Tryz.prog.cellsOf 9=1:=by kernel_rfl
 have c3:Tryz.prog.cellsOf 4=1:=by kernel_rfl
 have c1:Tryz.prog.cellsOf 26=1:=by kernel_rfl
 have f0:DataW.trod enc Tryz.prog W 0 (fun _=> true) true n 9 ((cs.drop 0).take (Tryz.prog.cellsOf 9))=xs[0]? :=hfd 0 _ rfl
 have f1:DataW.trod enc Tryz.prog W 0 (fun _=> true) true n 4 ((cs.drop 1).take (Tryz.prog.cellsOf 4))=xs[1]? :=hfd 1 _ rfl
 have f2:DataW.trod enc Tryz.prog W 0 (fun _=> true) true n 26 ((cs.drop 2).take (Tryz.prog.cellsOf 26))=xs[2]? :=hfd 2 _ rfl
 rw [c9]at f0
 rw [c3]at f1
 rw [c1]at f2
 match xs,hxl with
 | [y0,y1,y2],_=>
  match cs,hcl with
  | [k0,k1,k2],_=>
   obtain ⟨s0,e0,g0,_⟩:=DataW.trod_string Tryz.underlying9 f0
   obtain ⟨b1,e1,g1⟩:=DataW.trod_bool Tryz.underlying4 f1
   have q0:k0= .string s0:=by simpa using e0
   have q1:k1= .bool b1:=by simpa using e1
   have hd:x.1= .agg [y0.1,y1.1,y2.1]:=by rw [hxd];rfl
   rw [hd]at hsz
   have wm:∀n,(n∈y0.1.weights Tryz.prog 9∨n∈y2.1.weights Tryz.prog 26)→n≤reachBytes:=fun n hn=> hsz n (by
    rw [DataW.weights,Tryz.underlying42]
    simp only [DataW.weightsEach,List.map_cons,List.map_nil,List.mem_append]
    exact hn.elim .inl (fun h=> .inr (.inr (.inl h))))
   obtain ⟨A2,n2,c2,L2,e2,hL2,hn2,hs2,_⟩:=trod_vals (d:=y2.1) (p:=y2.2) f2 (fun n hn=> wm n (.inr hn))
   have q2:k2= .slice A2 n2 c2:=e2
   have h3:=reachBytes_lt
   have hw:=wm s0.data.toList.length (.inl (by
    rw [g0]
    simp [DataW.weights]))
   have hl2:=hL2.len
   refine ⟨⟨s0.data.toList,b1,⟨A2,c2,L2⟩⟩, ?_, ?_, ?_,hs2, ?_⟩
   ·show [k0,k1,k2]=[Value.string (sb s0.data.toList), .bool b1, .slice A2 L2.length c2]
    rw [sb_of,q0,q1,q2,hl2]
   ·show ValsAt W A2 L2.length c2 L2
    rw [hl2]
    exact hL2
   ·show s0.data.toList.length≤_
    omega
   ·show L2.length≤_
    rw [hl2]
    exact hn2
theorem cf_cells3:Tryz.prog.cellsOf 42=3:=by kernel_rfl
theorem weights_in {H:Type} {P:Program} {t e:TypeId} (ht:P.underlying t=some (.slice e)) {a b:List (DataW H)} {d:DataW H} (hd:d∈a) {n:Nat} (hn:n∈d.weights P e):n∈(DataW.slice a b).weights P t:=by
 unfold DataW.weights
 rw [ht]
 exact List.mem_cons_of_mem _ (List.mem_append_left _ (weights_all hn hd))
theorem trod_hists {H:Type} {enc:TypeId×Value→H} {W:World} {fuel:Nat} {v:Value} {d:DataW H} {p:List MemPlace}
  (hf:DataW.trod enc Tryz.prog W 0 (fun _=> true) true fuel 25 [v]=some (d,p)) (hsz:∀n∈d.weights Tryz.prog 25,n≤reachBytes):
  ∃(A:Option Addr) (n c:Nat) (Q:List Pe),v= .slice A n c∧HistsAt W A n c Q∧n≤140737488351232∧∀q∈Q,q.who.length≤140737488355328∧Fits q.rest.row∧q.rest.row.length≤140737488351232:=by
 rcases open_slice Tryz.underlying25 hf with ⟨hcs,_⟩ | ⟨a,len,cap,m,n,D,Pl,hcs,_,hl,hm,hmm,hx,hi⟩
 ·simp only [List.cons.injEq,and_true]at hcs
  subst hcs
  exact ⟨none,0,0,[],rfl,HistsAt.nil W _ _,Nat.zero_le _,fun _ h=> by cases h⟩
 ·simp only [List.cons.injEq,and_true]at hcs
  subst hcs
  simp only [if_true]at hmm
  subst hmm
  have hd:d= .slice ((List.range len).map D) ((List.range (m - len)).map fun j=> D (len+j)):=congrArg Prod.fst hx
  have each:∀i,i < len→∃q:Pe,(∀k u,q.enc[k]? =some u→W.cell? (a.add (i*3+k))=some u)∧ValsAt W q.rest.at_ q.rest.row.length q.rest.cap q.rest.row∧q.who.length≤140737488355328∧Fits q.rest.row∧q.rest.row.length≤140737488351232:=fun i hil=> by
   obtain ⟨cs',hc,ht⟩:=hi i (by omega)
   rw [cf_cells3]at hc
   obtain ⟨_,hcl,hat⟩:=World.cells?_some hc
   obtain ⟨q,hq,hq2⟩:=trod_hist ht (fun n hn=> hsz n (by
    rw [hd]
    exact weights_in Tryz.underlying25 (List.mem_map.2 ⟨i,List.mem_range.2 hil,rfl⟩) hn))
   refine ⟨q,fun k u hu=> ?_,hq2⟩
   have hk:k < 3:=(List.getElem?_eq_some_iff.1 hu).1
   have h0:=hat k hk
   rw [Go.Deep.add_add]at h0
   rw [h0,hq]
   exact hu
  obtain ⟨Q,hQ⟩:=choose_lt each
  have hlen:((List.range len).map Q).length=len:=by rw [List.length_map,List.length_range]
  rw [hd]at hsz
  have h3:=reachBytes_lt
  have hin:∀q∈(List.range len).map Q,∃i,i < len∧Q i=q:=fun q hq=> by
   obtain ⟨i,hi,rfl⟩:=List.mem_map.1 hq
   exact ⟨i,List.mem_range.1 hi,rfl⟩
  refine ⟨some a,len,m,(List.range len).map Q,rfl,⟨hlen,hl,fun hpos=> ?_,fun q hq=> ?_⟩, ?_,fun q hq=> ?_⟩
  ·have h00:=(hQ 0 hpos).1 0 _ rfl
   obtain ⟨b,off,spot⟩:=a
   have hspot:spot=none:=by simpa [Addr.add] using World.cell?_spot h00
   subst hspot
   refine ⟨b,off,rfl,World.block_lt_of_cell? W _ h00,fun j u hj=> ?_⟩
   have hjl:=(List.getElem?_eq_some_iff.1 hj).1
   rw [cellsE_len,hlen]at hjl
   have hi2:j / 3 < len:=by omega
   have hc:=(hQ (j / 3) hi2).1
   have ej:j=j / 3*3+j % 3:=by omega
   rw [ej,cellsE_at _ _ _ (by rw [hlen];exact hi2) (by omega)]at hj
   have hg:((List.range len).map Q)[j / 3]'(by rw [hlen];exact hi2)=Q (j / 3):=by simp
   rw [hg]at hj
   have:=hc _ _ hj
   rw [Addr.add_mid]at this
   rw [ej]
   exact this
  ·obtain ⟨i,hi2,rfl⟩:=hin q hq
   exact (hQ i hi2).2.1
  ·have h1:=hsz _ (by unfold DataW.weights;rw [Tryz.underlying25];exact List.mem_cons_self)
   have h2:Tryz.prog.bytesOf 42=48:=by kernel_rfl
   rw [h2,List.length_map,List.length_range]at h1
   omega
  ·obtain ⟨i,hi2,rfl⟩:=hin q hq
   exact (hQ i hi2).2.2
theorem cf_cells32:Tryz.prog.cellsOf 52=32:=by kernel_rfl
theorem trod_digs {H:Type} {enc:TypeId×Value→H} {W:World} {fuel:Nat} {v:Value} {d:DataW H} {p:List MemPlace}
  (hf:DataW.trod enc Tryz.prog W 0 (fun _=> true) true fuel 24 [v]=some (d,p)) (hsz:∀n∈d.weights Tryz.prog 24,n≤reachBytes):
  ∃(A:Option Addr) (n c:Nat) (G:List (List UInt8)),v= .slice A n c∧GsAt W A n c G∧n≤140737488355328:=by
 rcases open_slice Tryz.underlying24 hf with ⟨hcs,_⟩ | ⟨a,len,cap,m,n,D,Pl,hcs,_,hl,hm,hmm,hx,hi⟩
 ·simp only [List.cons.injEq,and_true]at hcs
  subst hcs
  exact ⟨none,0,0,[],rfl,GsAt.nil W _ _,Nat.zero_le _⟩
 ·simp only [List.cons.injEq,and_true]at hcs
  subst hcs
  simp only [if_true]at hmm
  subst hmm
  have hd:d= .slice ((List.range len).map D) ((List.range (m - len)).map fun j=> D (len+j)):=congrArg Prod.fst hx
  have each:∀i,i < len→∃q:List UInt8,(∀k u,(q.map v8)[k]? =some u→W.cell? (a.add (i*32+k))=some u)∧q.length=32:=fun i hil=> by
   obtain ⟨cs',hc,ht⟩:=hi i (by omega)
   rw [cf_cells32]at hc
   obtain ⟨_,hcl,hat⟩:=World.cells?_some hc
   obtain ⟨q,hq,hql⟩:=trod_digest ht
   refine ⟨q,fun k u hu=> ?_,hql⟩
   have hk:k < 32:=by
    have:=(List.getElem?_eq_some_iff.1 hu).1
    rwa [List.length_map,hql]at this
   have h0:=hat k hk
   rw [Go.Deep.add_add]at h0
   rw [h0,hq]
   exact hu
  obtain ⟨Q,hQ⟩:=choose_lt each
  have hlen:((List.range len).map Q).length=len:=by rw [List.length_map,List.length_range]
  have hdig:Dig32G ((List.range len).map Q):=fun q hq=> by
   obtain ⟨i,hi,rfl⟩:=List.mem_map.1 hq
   exact (hQ i (List.mem_range.1 hi)).2
  rw [hd]at hsz
  have h3:=reachBytes_lt
  refine ⟨some a,len,m,(List.range len).map Q,rfl,⟨hlen,hl,hdig,fun hpos=> ?_⟩, ?_⟩
  ·obtain ⟨u0,hu0⟩:∃u0,((Q 0).map v8)[0]? =some u0:=⟨((Q 0).map v8)[0]'(by rw [List.length_map,(hQ 0 hpos).2];decide),List.getElem?_eq_getElem _⟩
   have h00:=(hQ 0 hpos).1 0 _ hu0
   obtain ⟨b,off,spot⟩:=a
   have hspot:spot=none:=by simpa [Addr.add] using World.cell?_spot h00
   subst hspot
   refine ⟨b,off,rfl,World.block_lt_of_cell? W _ h00,fun j u hj=> ?_⟩
   have hjl:=(List.getElem?_eq_some_iff.1 hj).1
   rw [cellsG_len hdig,hlen]at hjl
   have hi2:j / 32 < len:=by omega
   have hc:=(hQ (j / 32) hi2).1
   have ej:j=j / 32*32+j % 32:=by omega
   rw [ej,cellsG_at hdig _ _ (by rw [hlen];exact hi2) (by omega)]at hj
   have hg:((List.range len).map Q)[j / 32]'(by rw [hlen];exact hi2)=Q (j / 32):=by simp
   rw [hg]at hj
   have:=hc _ _ hj
   rw [Addr.add_mid]at this
   rw [ej]
   exact this
  ·have h1:=hsz _ (by unfold DataW.weights;rw [Tryz.underlying24];exact List.mem_cons_self)
   have h2:Tryz.prog.bytesOf 52=32:=by kernel_rfl
   rw [h2,List.length_map,List.length_range]at h1
   omega
theorem open_conf {H:Type} {enc:TypeId×Value→H} {W:World} {base:Nat} {v:Value} {d:DataW H} {p:List MemPlace} (hv:Value.okWide Tryz.prog W .any base 28 v)
  (h:DataW.Trod enc Tryz.prog W 0 (fun _=> true) true 28 v d p) (hsz:∀n∈d.weights Tryz.prog 28,n≤reachBytes):
  ∃(c:Cfg) (Q:List Pe) (A1:Option Addr) (n1 c1:Nat) (A2:Option Addr) (n2 c2:Nat) (A3:Option Addr) (n3 c3:Nat),v= .agg #[.slice A1 n1 c1, .slice A2 n2 c2, .slice A3 n3 c3]∧ConfIn W c Q A1 n1 c1 A2 n2 c2 A3 n3 c3∧n1≤140737488355328∧n2≤140737488355328∧n3≤140737488351232∧HoldsC c:=by
 obtain ⟨cs,rfl,hsize⟩:=okWide_struct Tryz.underlying28 hv
 rw [show Tryz.prog.cellsOf 28=3 from by kernel_rfl]at hsize
 obtain ⟨l⟩:=cs
 obtain ⟨fuel,hf⟩:=h
 change DataW.trod enc Tryz.prog W 0 (fun _=> true) true fuel 28 l=_ at hf
 replace hsize:l.length=3:=hsize
 obtain ⟨xs,n,_,hxd,_,hxl,hfd⟩:=DataW.trod_struct Tryz.underlying28 hf
 have cD:Tryz.prog.cellsOf 24=1:=by kernel_rfl
 have cH:Tryz.prog.cellsOf 25=1:=by kernel_rfl
 have cV:Tryz.prog.cellsOf 26=1:=by kernel_rfl
 have f0:DataW.trod enc Tryz.prog W 0 (fun _=> true) true n 24 ((l.drop 0).take (Tryz.prog.cellsOf 24))=xs[0]? :=hfd 0 _ rfl
 have f1:DataW.trod enc Tryz.prog W 0 (fun _=> true) true n 25 ((l.drop 1).take (Tryz.prog.cellsOf 25))=xs[1]? :=hfd 1 _ rfl
 have f2:DataW.trod enc Tryz.prog W 0 (fun _=> true) true n 26 ((l.drop 2).take (Tryz.prog.cellsOf 26))=xs[2]? :=hfd 2 _ rfl
 rw [cD]at f0
 rw [cH]at f1
 rw [cV]at f2
 match l,hsize with
 | [k0,k1,k2],_=>
  match xs,hxl with
  | [y0,y1,y2],_=>
   simp only [Prod.mk.injEq]at hxd
   have hdd:d= .agg [y0.1,y1.1,y2.1]:=hxd.1
   subst hdd
   have wm:∀n,(n∈y0.1.weights Tryz.prog 24∨n∈y1.1.weights Tryz.prog 25∨n∈y2.1.weights Tryz.prog 26)→n≤reachBytes:=fun n hn=> hsz n (by
    rw [DataW.weights,Tryz.underlying28]
    simp only [DataW.weightsEach,List.map_cons,List.map_nil,List.mem_append]
    exact hn.elim .inl (fun h=> .inr (h.elim .inl (fun h=> .inr (.inl h)))))
   obtain ⟨A1,n1,c1,G,e1,hG,hn1⟩:=trod_digs (v:=k0) (d:=y0.1) (p:=y0.2) f0 (fun n hn=> wm n (.inl hn))
   obtain ⟨A2,n2,c2,Q,e2,hQ,hn2,hq⟩:=trod_hists (v:=k1) (d:=y1.1) (p:=y1.2) f1 (fun n hn=> wm n (.inr (.inl hn)))
   obtain ⟨A3,n3,c3,L,e3,hL,hn3,hs3,_⟩:=trod_vals (v:=k2) (d:=y2.1) (p:=y2.2) f2 (fun n hn=> wm n (.inr (.inr hn)))
   subst e1 e2 e3
   refine ⟨⟨G,histsOf Q,L⟩,Q,A1,n1,c1,A2,n2,c2,A3,n3,c3,rfl,⟨hG,hQ,rfl,hL⟩,hn1,by omega,hn3,⟨hs3,fun h hm=> ?_⟩⟩
   obtain ⟨q,hqm,rfl⟩:=List.mem_map.1 hm
   exact hq q hqm
end Go.Proofs.YtgmangikcfakgaaGreatDoor
