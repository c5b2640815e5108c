import Derived.Test.YtgmangikcfakgaaGreatDoorPL10
import Derived.Test.YtgmangikcfakgaaGreatDoorPL22
import Derived.Test.YtgmangikcfakgaaGreatDoorPL33
import Derived.Test.YtgmangikcfakgaaGreatDoorPL17
import Derived.Lib.LaidU8T
import Derived.Lib.LaidTab
import Derived.LaidSub
import Derived.SizedLaws
import Derived.Deep.Slices
import Derived.Deep.Strs
import Derived.Deep.Grids
import Derived.Test.YtgmangikcfakgaaGreatDoorPL30
namespace Go.Proofs.YtgmangikcfakgaaGreatDoor
instance:Inhabited Js.V:=⟨⟨0,[],[],0⟩⟩
set_option maxRecDepth 100000
open Go.ChangeShapes Go.WideShapes Go.ChangeAt Go.WideMaps Go.WideElems Go.RowKit Go.Deep Sh Jt Js Jo
def listed:List (String×DataW Unit):=[("math/bits.deBruijn32tab",Rows.laid_math_bits_deBruijn32tab),("math/bits.deBruijn64tab",Rows.laid_math_bits_deBruijn64tab),("internal/strconv.uint64pow10",Rows.laid_internal_strconv_uint64pow10),("unicode/utf8.acceptRanges",Rows.laid_unicode_utf8_acceptRanges),("strconv.ErrRange",Rows.laid_strconv_ErrRange),("strconv.ErrSyntax",Rows.laid_strconv_ErrSyntax),("onionskin/json.words",Rows.laid_onionskin_json_words),("unicode/utf8.first",Rows.laid_unicode_utf8_first)]
theorem sb_of (s:ByteArray):sb s.data.toList=s:=by
 apply ByteArray.ext
 simp [sb]
theorem iface_cell {H:Type} {enc:TypeId×Value→H} {W:World} {base:Nat} {sp:Nat→Bool} {held:Bool} {fuel:Nat} {t:TypeId} {cs:List Value} {nm:String} {d:DataW H} {q:List MemPlace} {ms:Array (String×TypeId)}
  (hu:Tryz.prog.underlying t=some (.interface ms)) (h:DataW.trod enc Tryz.prog W base sp held fuel t cs=some (.iface nm d,q)):∃u y,cs=[.iface u y]:=by
 cases fuel with
 | zero=> simp [DataW.trod]at h
 | succ n=>
  unfold DataW.trod at h
  rw [hu]at h
  split at h <;> simp_all
theorem err_of_reads {W:World} {nm:String} {g:Nat} {t2:String} {d:DataW Unit} (hg:Tryz.prog.globalNamed nm=some g) (ht:(Tryz.prog.globals[g]?).map (·.type)=some 80) (h:Lib.VarReads Tryz.prog W nm (.iface t2 d)):∃te pe,W.cell? ⟨g,0,none⟩=some (.iface te pe):=by
 obtain ⟨g',t',cs,fuel,p,hg',ht',hvar,hd⟩:=h
 obtain rfl:=Option.some.inj (hg.symm.trans hg')
 obtain rfl:=Option.some.inj (ht.symm.trans ht')
 obtain ⟨u,y,e⟩:=iface_cell Tryz.underlying80 hd
 refine ⟨u,y, ?_⟩
 rw [World.var?_cell hg hvar 0,←Array.getElem?_toList,e]
 rfl
theorem str_cell {H:Type} {enc:TypeId×Value→H} {W:World} {base:Nat} {sp:Nat→Bool} {held:Bool} {fuel:Nat} {v:Value} {s:List UInt8} {q:List MemPlace}
  (h:DataW.trod enc Tryz.prog W base sp held fuel 9 [v]=some (.lit (.string s),q)):v= .string (sb s):=by
 obtain ⟨b,e,e2,_⟩:=DataW.trod_string Tryz.underlying9 h
 simp only [Prod.mk.injEq,DataW.lit.injEq,Lit.string.injEq]at e2
 rw [e2.1,sb_of]
 simpa using e
theorem words_of_reads {W:World} (h:Lib.VarReads Tryz.prog W "onionskin/json.words" Rows.laid_onionskin_json_words):
  W.cell? ⟨0,0,none⟩=some (.string (sb [110,117,108,108]))∧W.cell? ⟨0,1,none⟩=some (.string (sb [116,114,117,101]))∧W.cell? ⟨0,2,none⟩=some (.string (sb [102,97,108,115,101])):=by
 obtain ⟨g',t',cs,fuel,p,hg',ht',hvar,hd⟩:=h
 have hg:Tryz.prog.globalNamed "onionskin/json.words" =some 0:=by kernel_rfl
 have ht:(Tryz.prog.globals[0]?).map (·.type)=some 122:=by kernel_rfl
 obtain rfl:=Option.some.inj (hg.symm.trans hg')
 obtain rfl:=Option.some.inj (ht.symm.trans ht')
 obtain ⟨xs,m,_,hx,hl,hxl,hat⟩:=DataW.trod_array Tryz.underlying122 hd
 have hc1:Tryz.prog.cellsOf 9=1:=by kernel_rfl
 have hc3:Tryz.prog.cellsOf 122=3:=by kernel_rfl
 rw [hc3]at hl
 rw [hc1]at hat
 simp only [Prod.mk.injEq,Rows.laid_onionskin_json_words,DataW.agg.injEq]at hx
 have a0:=hat 0 (by decide)
 have a1:=hat 1 (by decide)
 have a2:=hat 2 (by decide)
 match xs,hxl with
 | [x0,x1,x2],_=>
  obtain ⟨x0,y0⟩:=x0
  obtain ⟨x1,y1⟩:=x1
  obtain ⟨x2,y2⟩:=x2
  obtain ⟨hx,_⟩:=hx
  simp only [List.map_cons,List.map_nil,List.cons.injEq,and_true]at hx
  obtain ⟨rfl,rfl,rfl⟩:=hx
  have hcs:∃v0 v1 v2,cs.toList=[v0,v1,v2]:=by
   match h:cs.toList,hl with
   | [v0,v1,v2],_=> exact ⟨v0,v1,v2,rfl⟩
  obtain ⟨v0,v1,v2,hcs⟩:=hcs
  rw [hcs]at a0 a1 a2
  have e0:=str_cell a0
  have e1:=str_cell a1
  have e2:=str_cell a2
  refine ⟨?_, ?_, ?_⟩
  ·rw [World.var?_cell hg hvar 0,←Array.getElem?_toList,hcs,←e0]
   rfl
  ·rw [World.var?_cell hg hvar 1,←Array.getElem?_toList,hcs,←e1]
   rfl
  ·rw [World.var?_cell hg hvar 2,←Array.getElem?_toList,hcs,←e2]
   rfl
theorem env_of_laid {W:World} (h:laidMetH Tryz.prog listed W):CEnv W:=by
 rw [MakeChecks.laidMetH_plain _ _ _ (by kernel_rfl)]at h
 have hr:Lib.VarReads Tryz.prog W "strconv.ErrRange" Rows.laid_strconv_ErrRange:=Lib.laidMet.reads h (by simp [listed])
 have hs:Lib.VarReads Tryz.prog W "strconv.ErrSyntax" Rows.laid_strconv_ErrSyntax:=Lib.laidMet.reads h (by simp [listed])
 have hw:Lib.VarReads Tryz.prog W "onionskin/json.words" Rows.laid_onionskin_json_words:=Lib.laidMet.reads h (by simp [listed])
 have hf:Lib.VarReads Tryz.prog W "unicode/utf8.first" Rows.laid_unicode_utf8_first:=Lib.laidMet.reads h (by simp [listed])
 have ha:Lib.VarReads Tryz.prog W "unicode/utf8.acceptRanges" Rows.laid_unicode_utf8_acceptRanges:=Lib.laidMet.reads h (by simp [listed])
 have er:=err_of_reads (g:=5) (by kernel_rfl) (by kernel_rfl) hr
 have es:=err_of_reads (g:=4) (by kernel_rfl) (by kernel_rfl) hs
 obtain ⟨w0,w1,w2⟩:=words_of_reads hw
 have hf2:Lib.VarReads Tryz.prog W "unicode/utf8.first" Lib.firstData:=by
  rw [←Go.Pinned.utf8First_eq]
  exact hf
 have ha2:Lib.VarReads Tryz.prog W "unicode/utf8.acceptRanges" Lib.acceptData:=by
  have e:Rows.laid_unicode_utf8_acceptRanges (H:=Unit)=Lib.acceptData:=by kernel_rfl
  rw [←e]
  exact ha
 have l1:=World.block_lt_of_cell? W _ w0
 have l2:4 < W.heap.size:=by
  obtain ⟨_,_,c⟩:=es
  exact World.block_lt_of_cell? W _ c
 have l3:5 < W.heap.size:=by
  obtain ⟨_,_,c⟩:=er
  exact World.block_lt_of_cell? W _ c
 exact ⟨⟨⟨es,er⟩,w0,w1,w2,l1,l2,l3⟩,utf8Tabs_of_readsT (U8Types.of196 Tryz.laysV) ⟨by kernel_rfl,by kernel_rfl,by kernel_rfl,by kernel_rfl,by kernel_rfl,by kernel_rfl,by kernel_rfl⟩ hf2 ha2⟩
theorem open_bools14 {H:Type} {enc:TypeId×Value→H} {W:World} {base:Nat} {v:Value} {d:DataW H} {p:List MemPlace} (hv:Value.okWide Tryz.prog W .any base 39 v)
  (h:DataW.Trod enc Tryz.prog W 0 (fun _=> true) true 39 v d p):∃(A:Option Addr) (n c:Nat) (L:List Bool),v= .slice A n c∧BoolsAt W A n c L∧n≤maxLen:=by
 obtain ⟨a0,len0,cap0,rfl⟩:=okWide_slice Tryz.underlying39 hv
 obtain ⟨fuel,hf⟩:=h
 have hc1:Tryz.prog.cellsOf 4=1:=by kernel_rfl
 rcases Go.Deep.open_bools Tryz.underlying39 Tryz.underlying4 hc1 hf with ⟨hcs,_⟩ | ⟨a,len,cap,B,hcs,_,hl,hm,_,hi⟩
 ·simp [Value.cells]at hcs
  obtain ⟨rfl,rfl,rfl⟩:=hcs
  exact ⟨none,0,0,[],rfl,⟨rfl,Nat.le_refl _,fun h=> absurd h (by decide)⟩,Nat.zero_le _⟩
 ·simp [Value.cells]at hcs
  obtain ⟨rfl,rfl,rfl⟩:=hcs
  have hlen:((List.range len0).map B).length=len0:=by rw [List.length_map,List.length_range]
  refine ⟨some a,len0,cap0,(List.range len0).map B,rfl,⟨hlen,hl,fun hpos=> ?_⟩,Nat.le_trans hl hm⟩
  have h00:=hi 0 (by omega)
  obtain ⟨b,off,spot⟩:=a
  have hspot:spot=none:=by simpa [Addr.add] using World.cell?_spot h00
  subst hspot
  refine ⟨b,off,rfl,World.block_lt_of_cell? W _ h00,fun j u hj=> ?_⟩
  have hjl:=(List.getElem?_eq_some_iff.1 hj).1
  rw [List.length_map,hlen]at hjl
  have h1:=hi j (by omega)
  rw [Addr.add_mid]at h1
  rw [h1]
  rw [List.getElem?_map,List.getElem?_map,List.getElem?_range hjl]at hj
  exact hj
end Go.Proofs.YtgmangikcfakgaaGreatDoor
namespace Go.Proofs.YtgmangikcfakgaaGreatDoor
open Go
namespace Jo
open Jt Js
set_option maxRecDepth 100000
theorem body_ok {c:Cfg} (hok:okC c=true) (h1:∀h∈c.hist,rightPF (rowH h)=true) (h2:∃ks,Parts 2 false ks (c.hist.map rowH)) (hl:c.rest.length+(3+c.ids.length)+((c.hist.map rowH).flatten.length+1)≤5000):rightPF (bodyC c)=true:=by
 obtain ⟨p1,p2,p3,p4,p5⟩:=ok_parts hok
 obtain ⟨P,hY,n1,n2,_⟩:=plain_is p1
 obtain ⟨ks2,hH2⟩:=h2
 obtain ⟨t1,o1⟩:=root_one c.ids (key:=rootK) (n:=1) (o:=true) (fun h=> by cases h) root_valid (by decide)
 have hrl:=root_len c.ids
 have hrr:=root_right p2
 rw [root_flat]at hrl hrr
 rw [List.length_cons]at hrl
 obtain ⟨x1,x2⟩:=ObjIs.add hY (key:=rootK) hrr o1 n1 (by omega)
 unfold bodyC
 rw [root_flat]
 by_cases hh:c.hist=[]
 ·rw [if_pos hh]
  exact x1.right
 ·rw [if_neg hh]
  obtain ⟨t2,o2⟩:=one_list (d:=1) (o:=true) (key:=histK) (by decide) (fun h=> by cases h) hist_valid hH2 rfl
  have hlr:rightPF (listF (c.hist.map rowH))=true:=one_right (one_bare o2) (by omega)
  have hla:listA (c.hist.map rowH)=listF (c.hist.map rowH):=by
   unfold listA fineF
   rw [if_pos (List.all_eq_true.2 fun p hp=> by
    obtain ⟨x,hx,rfl⟩:=List.mem_map.1 hp
    exact h1 x hx),if_pos hlr]
  have n3:histK∉(P++[(⟨6,rootK,[],2⟩:V)::(rootP c.ids).flatten]).map Js.keyOf:=by
   rw [List.map_append,List.mem_append]
   rintro (e | e)
   ·exact n2 e
   ·exact root_hist (List.mem_singleton.1 e).symm
  obtain ⟨z1,z2⟩:=ObjIs.add x1 (key:=histK) (v:=⟨5,[],[],((c.hist.map rowH).length:Nat)⟩) hlr o2 n3 (by omega)
  rw [hla]
  exact z1.right
theorem row_yes14 {c:Cfg} (hok:okC c=true) (hr:rightPF (bodyC c)=true):rowC c=srt (bodyC c)∧rowC c≠[]:=by
 have e:rowC c=srt (bodyC c):=by
  unfold rowC
  rw [if_pos hok,sort_yes hr]
 refine ⟨e,fun h=> ?_⟩
 have:=(srt_srt hr).2.1
 rw [←e,h]at this
 exact absurd (right_pos this) (Nat.lt_irrefl _)
theorem row_no14 {c:Cfg} (h:okC c=false):rowC c=[]:=by
 unfold rowC
 rw [h]
 exact if_neg fun e=> by cases e
def none0:List V:=[⟨6,[],[],0⟩]
theorem none_right:rightPF none0=true:=whole_right (v:=⟨6,[],[],0⟩) (P:=[]) (own_obj 0) .nil rfl (fun _=> List.nodup_nil) (by decide)
theorem none_is:ObjIs none0 []:=ObjIs.of (P:=[]) (n:=0) rfl none_right (fun p hp=> by cases hp)
theorem none_same:srt none0=none0:=rfl
theorem none_plain (a b:List UInt8):plainF none0 a b=true:=is_plain none_is (fun h=> by cases h) (fun h=> by cases h) none_same
theorem none_obj:objA [] []=none0:=by
 unfold objA fineF
 rw [if_pos ⟨rfl,rfl⟩]
 exact if_pos none_right
theorem own_by {who:List UInt8} (hw:validF who=true) {d:Nat} (hd:d < 50):One d true ⟨4,byK,who,0⟩ [] []:=one_str hd (fun h=> by cases h) by_valid hw
theorem own_true {key:List UInt8} (hk:validF key=true) {d:Nat} (hd:d < 50) {o:Bool} (ho:o=false→key=[]):One d o ⟨1,key,[],0⟩ [] []:=One.leaf ⟨ho,hk, .inl ⟨.inr (.inl rfl),rfl,rfl⟩⟩ hd (show (1:Int)≠6 by decide) rfl
def bare (b:Bool):Hist:=⟨[],b,none0⟩
theorem bare_row (b:Bool):rowH (bare b)=if b=true then [⟨6,[],[],1⟩,⟨1,emptyK,[],0⟩] else none0:=by
 cases b with
 | false=> rfl
 | true=>
  have:=ObjIs.add none_is (key:=emptyK) (v:=⟨1,[],[],0⟩) (l:=[]) (one_right (own_true valid_none (by decide) (fun _=> rfl)) (by decide)) (own_true empty_valid (by decide) (fun h=> by cases h)) (fun h=> by cases h) (by decide)
  exact this.1.eq
theorem bare_ok (b:Bool):okH (bare b)=true:=by
 unfold okH
 rw [show (bare b).rest=none0 from rfl,show (bare b).who=[]from rfl,none_plain,valid_none]
 rfl
theorem bare_one (b:Bool):∃v l t,rowH (bare b)=v::l∧v.key=[]∧One 2 false v l t∧l.length≤1:=by
 rw [bare_row]
 cases b with
 | false=> exact ⟨_,_,[],rfl,rfl,⟨own_obj 0,by decide,[], .nil _ _,rfl,fun _=> List.nodup_nil⟩,Nat.zero_le _⟩
 | true=> exact ⟨_,_,_,rfl,rfl,⟨own_obj 1,by decide,[emptyK],(own_true empty_valid (d:=3) (by decide) (o:=true) (fun h=> by cases h)).rows,rfl,fun _=> by decide⟩,Nat.le_refl _⟩
theorem bares (L:List Bool):(∀h∈L.map bare,okH h=true∧rightPF (rowH h)=true)∧(∃ks,Parts 2 false ks ((L.map bare).map rowH))∧((L.map bare).map rowH).flatten.length≤2*L.length:=by
 induction L with
 | nil=> exact ⟨fun h hm=> (by cases hm),⟨[], .nil⟩,Nat.le_refl _⟩
 | cons b r ih=>
  obtain ⟨i1,⟨ks,i2⟩,i3⟩:=ih
  obtain ⟨v,l,t,e,hk,ho,hl⟩:=bare_one b
  refine ⟨fun h hm=> ?_,⟨v.key::ks, ?_⟩, ?_⟩
  ·rcases List.mem_cons.1 hm with rfl | hm
   ·refine ⟨bare_ok b, ?_⟩
    rw [e]
    have hb:=one_bare ho
    rw [show ({v with key:=[]}:V)=v from by cases v;subst hk;rfl]at hb
    exact one_right hb (by omega)
   ·exact i1 h hm
  ·rw [List.map_cons,List.map_cons,e]
   exact .cons ho i2
  ·rw [List.map_cons,List.map_cons,e,List.flatten_cons,List.length_append,List.length_cons,List.length_cons]
   omega
def fullN:List Bool→Nat
 | []=> 0
 | b::r=> if b=true then fullN r else fullN r+1
theorem layers_bare:∀L:List Bool,layersN (L.map bare)=fullN L
 | []=> rfl
 | b::r=> by
  rw [List.map_cons,layersN,fullN,layers_bare r]
  rfl
def cN (n:Nat) (L:List Bool):Cfg:=⟨List.replicate n (List.replicate 32 0),L.map bare,none0⟩
theorem dig_cN (n:Nat) (L:List Bool):DigC (cN n L):=fun d hd=> by
 rw [(List.mem_replicate.1 hd).2,List.length_replicate]
theorem ok_cN {n:Nat} {L:List Bool} (hL:L.length≤40):okC (cN n L)=decide (n≤60∧(L=[]∨fullN L=n)):=by
 have e1:(cN n L).ids.length=n:=List.length_replicate
 have e2:(cN n L).hist.length=L.length:=List.length_map _
 have e3:layersN (cN n L).hist=fullN L:=layers_bare L
 unfold okC
 rw [show plainF (cN n L).rest rootK histK=true from none_plain _ _,e1,e2,e3,show (cN n L).hist.all okH=true from List.all_eq_true.2 (fun h hm=> ((bares L).1 h hm).1),decide_eq_true (show L.length≤200 by omega),Bool.true_and,Bool.and_true,Bool.and_true,←Bool.decide_and]
 refine decide_eq_decide.2 ⟨fun h=> ⟨h.1, ?_⟩,fun h=> ⟨h.1,fun h0=> ?_⟩⟩
 ·cases L with
  | nil=> exact .inl rfl
  | cons b r=> exact .inr (h.2 (Nat.succ_pos _))
 ·rcases h.2 with e | e
  ·rw [e]at h0
   exact absurd h0 (Nat.lt_irrefl _)
  ·exact e
theorem row_cN {n:Nat} {L:List Bool} (hL:L.length≤40):rowC (cN n L)≠[]↔(n≤60∧(L=[]∨fullN L=n)):=by
 constructor
 ·intro h
  apply Classical.byContradiction
  intro hn
  exact h (row_no14 ((ok_cN hL).trans (decide_eq_false hn)))
 ·intro h
  have hok:okC (cN n L)=true:=(ok_cN hL).trans (decide_eq_true h)
  obtain ⟨a,b,c⟩:=bares L
  refine (row_yes14 hok (body_ok hok (fun x hx=> (a x hx).2) b ?_)).2
  have e1:(cN n L).ids.length=n:=List.length_replicate
  have e2:(cN n L).rest.length=1:=rfl
  have e3:((cN n L).hist.map rowH).flatten.length≤2*L.length:=c
  omega
theorem sh_none {k:Nat}:Short k none0:=fun v hv=> by
 rw [List.mem_singleton.1 hv]
 exact ⟨Nat.zero_le _,Nat.zero_le _⟩
theorem fit_cN (n:Nat) (L:List Bool):FitC (cN n L):=by
 refine ⟨sh_none,show 1≤250000 by decide,fun h hm=> ?_⟩
 obtain ⟨b,_,rfl⟩:=List.mem_map.1 hm
 exact ⟨Nat.zero_le _,sh_none,show 1≤250000 by decide⟩
theorem prints_cN {n:Nat} {L:List Bool} (hL:L.length≤40) (h:n≤60∧(L=[]∨fullN L=n)):∃t,PrintsC (cN n L) t:=by
 refine prints_C ((row_cN hL).2 h) (dig_cN n L) sh_none fun x hm=> ?_
 obtain ⟨b,_,rfl⟩:=List.mem_map.1 hm
 exact ⟨Nat.zero_le _,sh_none⟩
end Jo
end Go.Proofs.YtgmangikcfakgaaGreatDoor
