import Derived.Test.YtgmangikcfakgaaGreatDoorPA34
import Derived.Lib.LaidU8T
import Derived.Lib.LaidTab
import Derived.LaidSub
import Derived.SizedLaws
import Derived.Deep.Slices
import Derived.Deep.Strs
import Derived.Deep.Grids
set_option maxRecDepth 100000
set_option maxHeartbeats 40000000
namespace Go.Proofs.YtgmangikcfakgaaGreatDoor
open Go.RowKit Sh Jt Js Jo
namespace Jo
theorem qf0:∀(L:List Hist) (h:Hist),layersN (L++[h])=layersN L+if h.empty=true then 0 else 1
 | [],h=> by
  rw [List.nil_append,layersN,layersN];split <;> rfl
 | a::r,h=> by
  rw [List.cons_append,layersN,layersN,qf0 r h];split <;> split <;> omega
theorem qnh:∀L:List Hist,layersN L≤L.length
 | []=> Nat.le_refl _
 | a::r=> by
  have:=qnh r
  rw [layersN,List.length_cons];split <;> omega
theorem qhj (Q:List Pe) {j:Nat} (h:j < Q.length):histsOf (Q.take (j+1))=histsOf (Q.take j)++[Q[j].hist]:=by
 unfold histsOf
 rw [List.take_succ_eq_append_getElem h,List.map_append,List.map_singleton]
end Jo
theorem OwnHists.block {w:World} {B:Nat} {v:Value} {Q:List Pe} (h:OwnHists w B v Q) {b:Nat} (e:v.ownBlock=some b):B≤b∧b < w.heap.size:=by
 obtain ⟨_,⟨rfl,_⟩ | ⟨g,cap,cur,rfl,hg,hh,_⟩⟩:=h.row
 ·cases e
 ·have e':g=b:=by simpa [Value.ownBlock] using e
  subst e'
  exact ⟨hg,(Array.getElem?_eq_some_iff.1 hh).1⟩
theorem qtm (w:World) (A:Option Addr) (n c:Nat) (Q:List Pe) (hQ:HistsAt w A n c Q) (hn:n≤140737488355328):
  Calls Tryz.prog 18 #[.slice A n c] w fun e w'=> e= .returned (.int .i64 ((layersN (histsOf Q):Nat):Int))∧w=w':=by
 have hlen:=hQ.len
 have HQ:=Qh hQ
 have HNX:=Qh (fun j (h:j < Q.length)=> qhj Q h)
 have HLE:=Qh (fun j (h:j≤Q.length)=> show layersN (histsOf (Q.take j))≤j from by
  have:=qnh (histsOf (Q.take j))
  unfold histsOf at this ⊢
  rw [List.length_map,List.length_take]at this
  omega)
 obtain ⟨R,hR⟩:∃R,R=layersN (histsOf Q):=⟨_,rfl⟩
 rw [←hR]
 have HR:=Qh hR
 clear hQ hR
 go_enter Tryz.func18,Tryz.ntmps18
 go_wp2_with fail
 go_loopg [3,4] n (fun g v3 v4 wx=> ∃j x:Nat,v3= .int .i64 (x:Int)∧v4= .int .i64 (j:Int)∧j+g=n∧Hid (x=layersN (histsOf (Q.take j)))∧x≤j∧w=wx)
 case atStart=> exact ⟨0,0,rfl,rfl,by omega,Qh rfl,Nat.le_refl _,rfl⟩
 case round=>
  obtain ⟨j,x,rfl,rfl,hjg,HX,hxj,rfl⟩:=hrel
  cases gk with
  | zero=>
   obtain rfl:j=n:=by omega
   have hge:¬(j:Int) < (j:Int):=by omega
   have hx:x=R:=by rw [HX.out,HR.out,List.take_of_length_le (by omega)]
   subst hx;go_wp2_with fail;go_ret;exact ⟨rfl,rfl⟩
  | succ g=>
   have hj:j < Q.length:=by omega
   obtain ⟨b,o,rfl,hbl,_⟩:=HQ.out.at_ (by omega)
   obtain ⟨-,x1, -⟩:=HQ.out.cells hj
   have hnx:=HNX.out j hj
   have hjn:(j:Int) < (n:Int):=by omega
   have hj0:(0:Int)≤(j:Int):=by omega
   have hst:layersN (histsOf (Q.take (j+1)))=x+if Q[j].empty=true then 0 else 1:=by
    rw [hnx,qf0,←HX.out];rfl
   have HST:=Qh hst
   clear hst hnx;cases hb:Q[j].empty with
   | true=>
    rw [hb]at x1 HST
    have hs2:layersN (histsOf (Q.take (j+1)))=x:=HST.out
    have HS2:=Qh hs2.symm
    clear hs2 HST hb hj;go_wp2_with fail;go_roundg g
    case measure=> omega
    case rel=> exact ⟨j+1,x,rfl,by go_num,by omega,HS2,by omega,rfl⟩
   | false=>
    rw [hb]at x1 HST
    have hs2:layersN (histsOf (Q.take (j+1)))=x+1:=HST.out
    have HS2:=Qh hs2.symm
    clear hs2 HST hb hj;go_wp2_with fail;go_roundg g
    case measure=> omega
    case rel=> exact ⟨j+1,x+1,by go_num,by go_num,by omega,HS2,by omega,rfl⟩
def HistPost (w:World) (R:Option (List Hist)) (e:Ending) (w':World):Prop:=
 ∃v' Q,e= .returned (.tuple #[v', .bool R.isSome])∧Hid (histsOf Q=R.getD [])∧Hid (OwnHists w' w.heap.size v' Q∧Below w.heap.size w w')
theorem qrd (w:World) (A:Option Addr) (n c:Nat) (L:List V) (hL:ValsAt w A n c L) (hn:n≤5000) (hs:Short 1000000000 L):
  Calls Tryz.prog 37 #[.slice A n c] w (HistPost w (histF L)):=by
 have HG:=Qh (qd2 w A n c L hL (by omega) hs 0 histK)
 change Hid (Calls _ _ #[_,_, .string ⟨#[104,105,115,116,111,114,121]⟩] _ _)at HG
 have HIT:=Qh (fun W (q:Below w.heap.size w W) (a j:Int)=> qjo W A n c L (hL.below q) (by omega) hs a j)
 have HCT:=Qh (fun W (q:Below w.heap.size w W) (X:List V) (a:Int) (e:cutA L a=X)=> qaj (f:=35) (args:=#[.slice A n c, .int .i64 a]) (W:=W) (L:=X) rfl (by rw [←e];exact qsm W A n c L (hL.below q) (by omega) hs a))
 have HVC:=Qh (fun W (q:Below w.heap.size w W)=> hL.below q)
 have hlen:=hL.len
 have HS:=Qh hs
 obtain ⟨R,hR⟩:∃R,R=histF L:=⟨_,rfl⟩
 rw [←hR]
 have HR:=Qh hR
 clear hR hL hs
 have pl0:plc none= -1:=rfl
 have pls:∀q:Nat,plc (some q)=(q:Int):=fun _=> rfl
 go_enter Tryz.func37,Tryz.ntmps37
 go_wp2_with fail
 refine HG.out.mono ?_
 rintro e w2 ⟨rfl,B2⟩
 clear HG
 cases hgk:getA L 0 histK with
 | none=>
  have hx:R=some []:=by rw [HR.out];exact qva hgk
  have HX:=Qh hx
  rw [pl0];clear HR HIT HVC HCT pl0 pls hgk HS hx;go_wp2_with fail;go_ret2;rw [HX.out];exact ⟨_,[],rfl,Qh rfl,Qh ⟨OwnHists.nil _ _,B2.out⟩⟩
 | some k=>
  rw [pls];have hk0:¬(k:Int) < 0:=by omega
  have hk9:(0:Int)≤(k:Int):=by omega
  have hk:=(qbb hgk).1
  have hkn:(k:Int) < (n:Int):=by omega
  have HXX:=Qh (HR.out.trans (q1p hgk (hk:=hk)))
  obtain ⟨b,o,rfl,hbl,_⟩:=(HVC.out w2 B2.out).at_ (by omega)
  obtain ⟨K0, -, -, -⟩:=(HVC.out w2 B2.out).cells hk
  by_cases c4:L[k].kind=5
  case neg=>
   have hx:R=none:=by rw [HXX.out];exact if_neg c4
   have HX:=Qh hx
   have cb:(L[k].kind !=5)=true:=bne_iff_ne.2 c4
   generalize L[k]=vk at*;generalize vk.kind=y0 at*;clear HR HIT HVC HCT pl0 pls hgk HS HXX c4 hx;go_wp2_with fail;go_ret2;rw [HX.out];exact ⟨_,[],rfl,Qh rfl,Qh ⟨OwnHists.nil _ _,B2.out⟩⟩
  rw [c4]at K0
  have hd5:kindOf (L.drop k)=5:=by rw [List.drop_eq_getElem_cons hk];exact c4
  obtain ⟨hcnt,hparts⟩:=qic hgk hd5
  have hck:countOf (L.drop k)=L[k].count:=by rw [List.drop_eq_getElem_cons hk];rfl
  rw [hck]at hcnt
  obtain ⟨_,_,_,hkr,hkk,_⟩:=qch hgk
  have hpf:=qot hkr (hkk.trans c4)
  have HPR:=Qh (qf2 hkr (hkk.trans c4))
  have HPT:=Qh hparts
  have HSP:=Qh (fun (j:Nat) (hj:j < (partsL (ofKey L histK)).length)=> show (partsL (ofKey L histK))[j].length≤5000∧Short 1000000000 (partsL (ofKey L histK))[j]from by
   have e:=hparts j hj
   generalize (partsL (ofKey L histK))[j]=p at*;rw [←e];exact ⟨Nat.le_trans (qc6 _ _) (by omega),qb4 HS.out _⟩)
  have HCK:=Qh (fun W (q:Below w.heap.size w W)=> by
   have:=((HVC.out W q).cells hk).2.2.2
   rwa [←hcnt]at this)
  have HXY:Hid (R=allO entryF (partsL (ofKey L histK))):=Qh (by rw [HXX.out];exact if_pos c4)
  clear HXX HR c4 hkr hkk hck hgk pl0 pls hparts;generalize partsL (ofKey L histK)=PP at*;obtain ⟨pn,hpn⟩:∃pn,pn=PP.length:=⟨_,rfl⟩
  rw [←hpn]at HCK hpf
  have HPN:=Qh hpn
  clear hpn hcnt;have c3:=HCK.out w2 B2.out
  go_upto_region 8 with fail;clear K0;go_wp2_with fail;go_loopg [5,6] pn (fun g v5 v6 wx=> ∃(j:Nat) (Q:List Pe),v6= .int .i64 (j:Int)∧j+g=pn∧Hid (allO entryF (PP.take j)=some (histsOf Q))∧Hid (Q.length=j)∧Hid (OwnHists wx w.heap.size v5 Q∧Below w.heap.size w wx))
  case atStart=> exact ⟨0,[],rfl,by omega,Qh rfl,Qh rfl,Qh ⟨OwnHists.nil _ _,B2.out⟩⟩
  case round=>
   clear B2 c3;obtain ⟨j,Q,rfl,hjg,HA,HDL,HX⟩:=hrel
   have x3:=HCK.out wr HX.out.2
   cases gk with
   | zero=>
    obtain rfl:j=pn:=by omega
    have hge:¬(j:Int) < (j:Int):=by omega
    rw [List.take_of_length_le (Nat.le_of_eq HPN.out.symm)]at HA
    have HRX:Hid (R=some (histsOf Q)):=Qh (HXY.out.trans HA.out)
    go_wp2_with fail;go_ret2;rw [HRX.out];exact ⟨_,Q,rfl,Qh rfl,HX⟩
   | succ g=>
    have hlt:(j:Int) < (pn:Int):=by omega
    have hj:j < PP.length:=by rw [←HPN.out];omega
    obtain ⟨hpl,hps⟩:=HSP.out j hj
    have HPS:=Qh hps
    have HPRJ:=Qh (HPR.out _ (List.getElem_mem hj))
    have HIX:=Qh (HIT.out wr HX.out.2 (k:Int) (j:Int))
    have HCX:=Qh (fun W q=> HCT.out W q PP[j] (plc (itemA L (k:Int) (j:Int))) (HPT.out j hj))
    have HNX:=Qh (show PP.take (j+1)=PP.take j++[PP[j]]from List.take_succ_eq_append_getElem hj)
    have HNO:=Qh (show entryF PP[j]=none→R=none from fun h=> HXY.out.trans (qek (List.getElem_mem hj) h))
    have HAP:=Qh (fun d (h:entryF PP[j]=some d)=> show allO entryF (PP.take (j+1))=some (histsOf Q++[d])from by rw [HNX.out];exact qej HA.out h)
    clear hps HNX HA HIT HCT HPT HXY HSP HPR;generalize PP[j]=p at*;clear hj;generalize plc (itemA L (k:Int) (j:Int))=zi at*;go_wp2_with fail;refine HIX.out.mono ?_
    rintro e w9 ⟨rfl,K9⟩;have HX9:=Qh (show OwnHists w9 w.heap.size u5 Q∧Below w.heap.size w w9 from ⟨HX.out.1.below K9.out,HX.out.2.trans (K9.out.mono HX.out.2.size)⟩)
    clear HX K9 HIX x3;go_wp2_with fail;refine (HCX.out w9 HX9.out.2).mono ?_
    rintro e w10 ⟨A10,c10,rfl,K10⟩;have HX10:=Qh (show OwnHists w10 w.heap.size u5 Q∧Below w.heap.size w w10 from ⟨HX9.out.1.below K10.out.2.2,HX9.out.2.trans (K10.out.2.2.mono HX9.out.2.size)⟩)
    have HV10:=Qh K10.out.2.1
    clear HX9 K10 HCX;have HEN:=Qh (qu5 w10 A10 p.length c10 p HV10.out hpl HPS.out HPRJ.out)
    clear HV10 HPRJ HPS;generalize entryF p=E0 at*;generalize p.length=pl at*;go_wp2_with fail;refine HEN.out.mono ?_
    intro e w11 hp11;clear HEN;cases E0 with
    | none=>
     obtain ⟨rfl,K11⟩:=hp11
     have HRX:=Qh (HNO.out rfl)
     have B11:=Qh (HX10.out.2.trans (K11.out.mono HX10.out.2.size))
     clear HNO HAP HX10 K11;go_upto_region 11 with ((with_reducible refine qaf ?_ 42 (.tmp 7) (.tmp 36) ?_ w11.heap.size hz ?_ ?_ hz ?_ ?_ ?_ ?_ ?_);rfl;rfl;go_must (rfl;rfl;rfl;exact Row.at_ _ _ _ rfl rfl;exact qai;exact qdq;intro w12 R12 K12 S12))
     have B12:=Qh (B11.out.trans (show Below w.heap.size w11 w12 from ((qaq K12.out).below (Nat.le_refl _) (fun _ _ h=> h)).mono B11.out.size))
     clear B11 R12 K12 S12;go_wp2_with fail;go_ret2;rw [HRX.out];exact ⟨_,[],rfl,Qh rfl,Qh ⟨OwnHists.nil _ _,B12.out⟩⟩
    | some h=>
     obtain ⟨pe,hpe,rfl,K11⟩:=hp11
     have HA2:=Qh (show allO entryF (PP.take (j+1))=some (histsOf (Q++[pe]))from by
      rw [HAP.out h rfl,←hpe];unfold histsOf;rw [List.map_append];rfl)
     have HLN:=Qh (show (Q++[pe]).length=j+1 from by rw [List.length_append,HDL.out];rfl)
     clear HNO HAP hpe;have HPV:=Qh (show ValsAt w11 pe.rest.at_ pe.rest.row.length pe.rest.cap pe.rest.row∧∀b o,pe.rest.at_=some ⟨b,o,none⟩→w.heap.size≤b∧b < w11.heap.size∧u5.ownBlock≠some b from by
      obtain ⟨A,cc,e,hv,_,hA,_⟩:=K11.out.1.vals
      have e2:Value.slice pe.rest.at_ pe.rest.row.length pe.rest.cap= .slice A pe.rest.row.length cc:=e
      simp only [Value.slice.injEq,true_and]at e2
      obtain ⟨e3,e4⟩:=e2
      rw [e3,e4];refine ⟨hv,fun b o e5=> ?_⟩
      obtain ⟨g,e6,h6,h7⟩:=hA _ e5
      cases e6
      exact ⟨Nat.le_trans HX10.out.2.size h6,h7,fun e8=> by have:=(HX10.out.1.block e8).2;omega⟩)
     have HX11:=Qh (show OwnHists w11 w.heap.size u5 Q∧Below w.heap.size w w11 from ⟨HX10.out.1.below K11.out.2,HX10.out.2.trans (K11.out.2.mono HX10.out.2.size)⟩)
     clear HX10 K11;go_upto_region 11 with ((with_reducible refine qaf ?_ 42 (.tmp 7) (.tmp 36) ?_ w11.heap.size pe.enc ?_ ?_ hz ?_ ?_ ?_ ?_ ?_);rfl;rfl;go_must (rfl;rfl;rfl;exact Row.at_ _ _ _ rfl rfl;exact qai;exact qbq _ _ _ _ _;intro w12 R12 K12 S12))
     have KB12:=Qh (show Below w11.heap.size w11 w12 from (qaq K12.out).below (Nat.le_refl _) (fun _ _ h=> h))
     have HX12:=Qh (show OwnHists w12 w.heap.size u5 Q∧Below w.heap.size w w12 from ⟨HX11.out.1.below KB12.out,HX11.out.2.trans (KB12.out.mono HX11.out.2.size)⟩)
     have HPW:=Qh (show ValsAt (w12.alloc (.cells #[.string (sb pe.who), .bool pe.empty,pe.rest.enc] 42)) pe.rest.at_ pe.rest.row.length pe.rest.cap pe.rest.row∧∀b o,pe.rest.at_=some ⟨b,o,none⟩→w.heap.size≤b∧b < (w12.alloc (.cells #[.string (sb pe.who), .bool pe.empty,pe.rest.enc] 42)).heap.size∧u5.ownBlock≠some b from
      ⟨(HPV.out.1.below KB12.out).below (qac w12 _),fun b o e=> ⟨(HPV.out.2 b o e).1,Nat.lt_of_lt_of_le (HPV.out.2 b o e).2.1 (Nat.le_trans KB12.out.size (qac w12 _).size),(HPV.out.2 b o e).2.2⟩⟩)
     have HSB:=Qh (show w.heap.size≤(w12.alloc (.cells #[.string (sb pe.who), .bool pe.empty,pe.rest.enc] 42)).heap.size from Nat.le_trans HX12.out.2.size (qac w12 _).size)
     have HRA:=Qh (show (w12.alloc (.cells #[.string (sb pe.who), .bool pe.empty,pe.rest.enc] 42)).rangeAt w12.heap.size 0 pe.enc from qan (Row.new w12 42 pe.enc))
     clear HX11 K12 S12 KB12 HPV;generalize w11.heap.size=q2 at*;go_upto_region 9 with (first
      | ((with_reducible refine qas ?_ 42 (.tmp 7) ?_ q2 0 pe.enc #[.string (sb pe.who), .bool pe.empty,pe.rest.enc] ?_ _ ?_ Tryz.underlying42 ?_ ?_ ?_ ?_);rfl;rfl;go_must (rfl;exact qan R12.out;rfl;exact qai;rfl))
      | (with_reducible refine qjb rfl _ rfl (.string (sb pe.who)) (.bool pe.empty) pe.rest.enc rfl ?_)
      | (at_builtin;go_must ((with_reducible refine qh5 rfl _ _ rfl w.heap.size u5 Q rfl (HX12.out.1.below (qac _ _)) w12.heap.size pe rfl HRA.out HPW.out.1 HPW.out.2 (by rw [HDL.out];omega) HSB.out ?_);intro v14 w14 h1 h2)))
     have HX14:=Qh (show OwnHists w14 w.heap.size v14 (Q++[pe])∧Below w.heap.size w w14 from ⟨h1.out,(HX12.out.2.trans ((qac w12 _).mono HX12.out.2.size)).trans (qak h2.out HSB.out (fun i hi e=> by have:=e.1;omega))⟩)
     clear HX12 h1 h2 R12 HPW HRA;go_wp2_with fail;go_roundg g
     case measure=> omega
     case rel=> exact ⟨j+1,Q++[pe],by go_num,by omega,HA2,HLN,HX14⟩
end Go.Proofs.YtgmangikcfakgaaGreatDoor
namespace Go.Proofs.YtgmangikcfakgaaGreatDoor
instance:Inhabited Js.V:=⟨⟨0,[],[],0⟩⟩
open Go.ChangeShapes Go.WideShapes Go.ChangeAt Go.WideMaps Go.WideElems Go.RowKit Go.Deep Sh Jt Js Jo
def listed:List (String×DataW Unit):=[("math/bits.deBruijn32tab",Rows.laid_math_bits_deBruijn32tab),("math/bits.deBruijn64tab",Rows.laid_math_bits_deBruijn64tab),("internal/strconv.uint64pow10",Rows.laid_internal_strconv_uint64pow10),("unicode/utf8.acceptRanges",Rows.laid_unicode_utf8_acceptRanges),("strconv.ErrRange",Rows.laid_strconv_ErrRange),("strconv.ErrSyntax",Rows.laid_strconv_ErrSyntax),("onionskin/json.words",Rows.laid_onionskin_json_words),("unicode/utf8.first",Rows.laid_unicode_utf8_first)]
theorem sb_of (s:ByteArray):sb s.data.toList=s:=by
 apply ByteArray.ext
 simp [sb]
theorem quf {H:Type} {enc:TypeId×Value→H} {W:World} {base:Nat} {sp:Nat→Bool} {held:Bool} {fuel:Nat} {t:TypeId} {cs:List Value} {nm:String} {d:DataW H} {q:List MemPlace} {ms:Array (String×TypeId)}
  (hu:Tryz.prog.underlying t=some (.interface ms)) (h:DataW.trod enc Tryz.prog W base sp held fuel t cs=some (.iface nm d,q)):∃u y,cs=[.iface u y]:=by
 cases fuel with
 | zero=> simp [DataW.trod]at h
 | succ n=>
  unfold DataW.trod at h;rw [hu]at h
  split at h <;> simp_all
theorem qil {W:World} {nm:String} {g:Nat} {t2:String} {d:DataW Unit} (hg:Tryz.prog.globalNamed nm=some g) (ht:(Tryz.prog.globals[g]?).map (·.type)=some 80) (h:Lib.VarReads Tryz.prog W nm (.iface t2 d)):∃te pe,W.cell? ⟨g,0,none⟩=some (.iface te pe):=by
 obtain ⟨g',t',cs,fuel,p,hg',ht',hvar,hd⟩:=h
 obtain rfl:=Option.some.inj (hg.symm.trans hg')
 obtain rfl:=Option.some.inj (ht.symm.trans ht')
 obtain ⟨u,y,e⟩:=quf Tryz.underlying80 hd
 refine ⟨u,y, ?_⟩
 rw [World.var?_cell hg hvar 0,←Array.getElem?_toList,e]
 rfl
theorem qjv {H:Type} {enc:TypeId×Value→H} {W:World} {base:Nat} {sp:Nat→Bool} {held:Bool} {fuel:Nat} {v:Value} {s:List UInt8} {q:List MemPlace}
  (h:DataW.trod enc Tryz.prog W base sp held fuel 9 [v]=some (.lit (.string s),q)):v= .string (sb s):=by
 obtain ⟨b,e,e2,_⟩:=DataW.trod_string Tryz.underlying9 h
 simp only [Prod.mk.injEq,DataW.lit.injEq,Lit.string.injEq]at e2
 rw [e2.1,sb_of]
 simpa using e
theorem qlw {W:World} (h:Lib.VarReads Tryz.prog W "onionskin/json.words" Rows.laid_onionskin_json_words):
  W.cell? ⟨0,0,none⟩=some (.string (sb [110,117,108,108]))∧W.cell? ⟨0,1,none⟩=some (.string (sb [116,114,117,101]))∧W.cell? ⟨0,2,none⟩=some (.string (sb [102,97,108,115,101])):=by
 obtain ⟨g',t',cs,fuel,p,hg',ht',hvar,hd⟩:=h
 have hg:Tryz.prog.globalNamed "onionskin/json.words" =some 0:=by kernel_rfl
 have ht:(Tryz.prog.globals[0]?).map (·.type)=some 122:=by kernel_rfl
 obtain rfl:=Option.some.inj (hg.symm.trans hg')
 obtain rfl:=Option.some.inj (ht.symm.trans ht')
 obtain ⟨xs,m,_,hx,hl,hxl,hat⟩:=DataW.trod_array Tryz.underlying122 hd
 have hc1:Tryz.prog.cellsOf 9=1:=by kernel_rfl
 have hc3:Tryz.prog.cellsOf 122=3:=by kernel_rfl
 rw [hc3]at hl
 rw [hc1]at hat
 simp only [Prod.mk.injEq,Rows.laid_onionskin_json_words,DataW.agg.injEq]at hx
 have a0:=hat 0 (by decide)
 have a1:=hat 1 (by decide)
 have a2:=hat 2 (by decide)
 match xs,hxl with
 | [x0,x1,x2],_=>
  obtain ⟨x0,y0⟩:=x0
  obtain ⟨x1,y1⟩:=x1
  obtain ⟨x2,y2⟩:=x2
  obtain ⟨hx,_⟩:=hx
  simp only [List.map_cons,List.map_nil,List.cons.injEq,and_true]at hx
  obtain ⟨rfl,rfl,rfl⟩:=hx
  have hcs:∃v0 v1 v2,cs.toList=[v0,v1,v2]:=by
   match h:cs.toList,hl with
   | [v0,v1,v2],_=> exact ⟨v0,v1,v2,rfl⟩
  obtain ⟨v0,v1,v2,hcs⟩:=hcs
  rw [hcs]at a0 a1 a2
  have e0:=qjv a0
  have e1:=qjv a1
  have e2:=qjv a2
  refine ⟨?_, ?_, ?_⟩
  ·rw [World.var?_cell hg hvar 0,←Array.getElem?_toList,hcs,←e0]
   rfl
  ·rw [World.var?_cell hg hvar 1,←Array.getElem?_toList,hcs,←e1]
   rfl
  ·rw [World.var?_cell hg hvar 2,←Array.getElem?_toList,hcs,←e2]
   rfl
theorem qq4 {W:World} (h:laidMetH Tryz.prog listed W):CEnv W:=by
 rw [MakeChecks.laidMetH_plain _ _ _ (by kernel_rfl)]at h
 have hr:Lib.VarReads Tryz.prog W "strconv.ErrRange" Rows.laid_strconv_ErrRange:=Lib.laidMet.reads h (by simp [listed])
 have hs:Lib.VarReads Tryz.prog W "strconv.ErrSyntax" Rows.laid_strconv_ErrSyntax:=Lib.laidMet.reads h (by simp [listed])
 have hw:Lib.VarReads Tryz.prog W "onionskin/json.words" Rows.laid_onionskin_json_words:=Lib.laidMet.reads h (by simp [listed])
 have hf:Lib.VarReads Tryz.prog W "unicode/utf8.first" Rows.laid_unicode_utf8_first:=Lib.laidMet.reads h (by simp [listed])
 have ha:Lib.VarReads Tryz.prog W "unicode/utf8.acceptRanges" Rows.laid_unicode_utf8_acceptRanges:=Lib.laidMet.reads h (by simp [listed])
 have er:=qil (g:=5) (by kernel_rfl) (by kernel_rfl) hr
 have es:=qil (g:=4) (by kernel_rfl) (by kernel_rfl) hs
 obtain ⟨w0,w1,w2⟩:=qlw hw
 have hf2:Lib.VarReads Tryz.prog W "unicode/utf8.first" Lib.firstData:=by
  rw [←Go.Pinned.utf8First_eq];exact hf
 have ha2:Lib.VarReads Tryz.prog W "unicode/utf8.acceptRanges" Lib.acceptData:=by
  have e:Rows.laid_unicode_utf8_acceptRanges (H:=Unit)=Lib.acceptData:=by kernel_rfl
  rw [←e];exact ha
 have l1:=World.block_lt_of_cell? W _ w0
 have l2:4 < W.heap.size:=by
  obtain ⟨_,_,c⟩:=es
  exact World.block_lt_of_cell? W _ c
 have l3:5 < W.heap.size:=by
  obtain ⟨_,_,c⟩:=er
  exact World.block_lt_of_cell? W _ c
 exact ⟨⟨⟨es,er⟩,w0,w1,w2,l1,l2,l3⟩,utf8Tabs_of_readsT (U8Types.of196 Tryz.laysV) ⟨by kernel_rfl,by kernel_rfl,by kernel_rfl,by kernel_rfl,by kernel_rfl,by kernel_rfl,by kernel_rfl⟩ hf2 ha2⟩
end Go.Proofs.YtgmangikcfakgaaGreatDoor
namespace Go.Proofs.YtgmangikcfakgaaGreatDoor
open Go
namespace Jo
open Jt Js
theorem q2d {c:Cfg} (hok:okC c=true) (h1:∀h∈c.hist,rightPF (rowH h)=true) (h2:∃ks,Parts 2 false ks (c.hist.map rowH)) (hl:c.rest.length+(3+c.ids.length)+((c.hist.map rowH).flatten.length+1)≤5000):rightPF (bodyC c)=true:=by
 obtain ⟨p1,p2,p3,p4,p5⟩:=qg4 hok
 obtain ⟨P,hY,n1,n2,_⟩:=qhb p1
 obtain ⟨ks2,hH2⟩:=h2
 obtain ⟨t1,o1⟩:=qj0 c.ids (key:=rootK) (n:=1) (o:=true) (fun h=> by cases h) qeu (by decide)
 have hrl:=qgi c.ids
 have hrr:=qew p2
 rw [qdj]at hrl hrr
 rw [List.length_cons]at hrl
 obtain ⟨x1,x2⟩:=ObjIs.add hY (key:=rootK) hrr o1 n1 (by omega)
 unfold bodyC
 rw [qdj]
 by_cases hh:c.hist=[]
 ·rw [if_pos hh]
  exact x1.right
 ·rw [if_neg hh]
  obtain ⟨t2,o2⟩:=qe8 (d:=1) (o:=true) (key:=histK) (by decide) (fun h=> by cases h) qeo hH2 rfl
  have hlr:rightPF (listF (c.hist.map rowH))=true:=qbf (qdv o2) (by omega)
  have hla:listA (c.hist.map rowH)=listF (c.hist.map rowH):=by
   unfold listA fineF;rw [if_pos (List.all_eq_true.2 fun p hp=> by
    obtain ⟨x,hx,rfl⟩:=List.mem_map.1 hp
    exact h1 x hx),if_pos hlr]
  have n3:histK∉(P++[(⟨6,rootK,[],2⟩:V)::(rootP c.ids).flatten]).map Js.keyOf:=by
   rw [List.map_append,List.mem_append];rintro (e | e)
   ·exact n2 e
   ·exact qea (List.mem_singleton.1 e).symm
  obtain ⟨z1,z2⟩:=ObjIs.add x1 (key:=histK) (v:=⟨5,[],[],((c.hist.map rowH).length:Nat)⟩) hlr o2 n3 (by omega)
  rw [hla];exact z1.right
theorem qwk {c:Cfg} (hok:okC c=true) (hr:rightPF (bodyC c)=true):rowC c=srt (bodyC c)∧rowC c≠[]:=by
 have e:rowC c=srt (bodyC c):=by
  unfold rowC;rw [if_pos hok,qd1 hr]
 refine ⟨e,fun h=> ?_⟩
 have:=(qcn hr).2.1
 rw [←e,h]at this
 exact absurd (qav this) (Nat.lt_irrefl _)
theorem qp4 {c:Cfg} (h:okC c=false):rowC c=[]:=by
 unfold rowC
 rw [h]
 exact if_neg fun e=> by cases e
def none0:List V:=[⟨6,[],[],0⟩]
theorem qgq:rightPF none0=true:=qbt (v:=⟨6,[],[],0⟩) (P:=[]) (qbw 0) .nil rfl (fun _=> List.nodup_nil) (by decide)
theorem qd0:ObjIs none0 []:=ObjIs.of (P:=[]) (n:=0) rfl qgq (fun p hp=> by cases hp)
theorem qwa:srt none0=none0:=rfl
theorem qk6 (a b:List UInt8):plainF none0 a b=true:=qgn qd0 (fun h=> by cases h) (fun h=> by cases h) qwa
theorem qyp:objA [] []=none0:=by
 unfold objA fineF
 rw [if_pos ⟨rfl,rfl⟩]
 exact if_pos qgq
theorem qxh {who:List UInt8} (hw:validF who=true) {d:Nat} (hd:d < 50):One d true ⟨4,byK,who,0⟩ [] []:=qbp hd (fun h=> by cases h) qj1 hw
theorem qkf {key:List UInt8} (hk:validF key=true) {d:Nat} (hd:d < 50) {o:Bool} (ho:o=false→key=[]):One d o ⟨1,key,[],0⟩ [] []:=One.leaf ⟨ho,hk, .inl ⟨.inr (.inl rfl),rfl,rfl⟩⟩ hd (show (1:Int)≠6 by decide) rfl
def bare (b:Bool):Hist:=⟨[],b,none0⟩
theorem qyi (b:Bool):rowH (bare b)=if b=true then [⟨6,[],[],1⟩,⟨1,emptyK,[],0⟩] else none0:=by
 cases b with
 | false=> rfl
 | true=>
  have:=ObjIs.add qd0 (key:=emptyK) (v:=⟨1,[],[],0⟩) (l:=[]) (qbf (qkf qaw (by decide) (fun _=> rfl)) (by decide)) (qkf qf4 (by decide) (fun h=> by cases h)) (fun h=> by cases h) (by decide)
  exact this.1.eq
theorem q2k (b:Bool):okH (bare b)=true:=by
 unfold okH
 rw [show (bare b).rest=none0 from rfl,show (bare b).who=[]from rfl,qk6,qaw]
 rfl
theorem qi1 {k:Nat}:Short k none0:=fun v hv=> by
 rw [List.mem_singleton.1 hv]
 exact ⟨Nat.zero_le _,Nat.zero_le _⟩
end Jo
end Go.Proofs.YtgmangikcfakgaaGreatDoor
namespace Go.Proofs.YtgmangikcfakgaaGreatDoor
open Go
namespace Jo
open Jt Js
def ones (r:List V):List (List V):=r.map fun v=> [v]
theorem qj8 {v:V} {l:List V} (h:¬v.kind=4):digO (v::l)=none:=by
 unfold digO tellF
 rw [if_neg (show ¬kindOf (v::l)=4 from h)]
 rfl
theorem q0m {v:V} {l:List V} (h:v.kind=4):digO (v::l)=Dg.parse v.text:=by
 unfold digO tellF
 rw [if_pos (show kindOf (v::l)=4 from h)]
 rfl
theorem qyb {d:Nat} {o:Bool} {v:V} {l:List V} {t:List UInt8} (h:One d o v l t) (h4:v.kind=4):l=[]:=by
 obtain ⟨ks,h1,h2,_⟩:=h.kids
 have hc:v.count=0:=by
  rcases h.own.2.2 with ⟨_,_,e⟩ | ⟨_,_,_,e⟩ | ⟨_,_,e⟩ | ⟨e,_,_⟩
  ·exact e
  ·exact e
  ·exact e
  ·omega
 rw [hc]at h2
 have:ks=[]:=List.eq_nil_of_length_eq_zero (by omega)
 subst this
 exact (qay h1 rfl).1
theorem qx5 {d:Nat} {ks:List (List UInt8)} {P:List (List V)} (h:Parts d false ks P):allO digO P=allO digO (ones P.flatten):=by
 induction h with
 | nil=> rfl
 | @cons v l t ks P h r ih=>
  rw [List.flatten_cons];by_cases h4:v.kind=4
  ·obtain rfl:=qyb h h4
   show allO digO ([v]::P)=allO digO ([v]::ones P.flatten)
   rw [allO,allO,ih]
  ·show allO digO ((v::l)::P)=allO digO ([v]::ones (l++P.flatten))
   rw [allO,allO,qj8 h4,qj8 h4];rfl
theorem qyc {X:List V} (hr:rightPF X=true):listO digO X=if kindOf X=5 then allO digO (ones (X.drop 1)) else none:=by
 unfold listO
 by_cases h5:kindOf X=5
 ·rw [if_pos h5,if_pos h5]
  obtain ⟨v,Q,rfl,he,hn,_,⟨ks,_,hq,_⟩,hl⟩:=qcl hr
  have hk5:v.kind=5:=h5
  rw [show isObj v=false from decide_eq_false (by omega)]at hq
  rw [qg7 hq (by rw [←hq.len];exact hn)]
  exact qx5 hq
 ·rw [if_neg h5,if_neg h5]
def byO (L:List V):Option (List UInt8):=if ofKey L byK=[] then some [] else tellF 4 (ofKey L byK)
def emO (L:List V):Option Bool:=if ofKey L emptyK=[] then some false else if kindOf (ofKey L emptyK)=1 then some true else if kindOf (ofKey L emptyK)=2 then some false else none
theorem q2e {L:List V} (h:getA L 0 byK=none):byO L=some []:=if_pos (qbh h)
theorem by_at {L:List V} {p:Nat} (h:getA L 0 byK=some p) {hp:p < L.length}:byO L=if L[p].kind=4 then some L[p].text else none:=by
 obtain ⟨_,hne,_,_,h1,h2⟩:=qch h
 unfold byO tellF
 rw [if_neg hne,h1,h2]
theorem q2q {L:List V} (h:getA L 0 emptyK=none):emO L=some false:=if_pos (qbh h)
theorem em_at {L:List V} {p:Nat} (h:getA L 0 emptyK=some p) {hp:p < L.length}:emO L=if L[p].kind=1 then some true else if L[p].kind=2 then some false else none:=by
 obtain ⟨_,hne,_,_,h1,_⟩:=qch h
 unfold emO
 rw [if_neg hne,h1]
def entryO (L:List V):Option (List UInt8)→Option Bool→Option Hist
 | some x,some y=> if kindOf L=6 then some ⟨x,y,srt (dropA (dropA L byK) emptyK)⟩ else none
 | _,_=> none
theorem qf3 (L:List V) (b:Option Bool):entryO L none b=none:=by cases b <;> rfl
theorem qk8 {L:List V} (h:¬kindOf L=6) (a:Option (List UInt8)) (b:Option Bool):entryO L a b=none:=by
 cases a with
 | none=> exact qf3 L b
 | some x=> cases b with
  | none=> rfl
  | some y=> exact if_neg h
theorem qwe {L:List V} (hr:rightPF L=true) {a:Option (List UInt8)} {b:Option Bool} (ha:byO L=a) (hb:emO L=b):entryF L=entryO L a b:=by
 have hO:isO L=decide (kindOf L=6):=by unfold isO;rw [hr,Bool.true_and]
 by_cases h6:kindOf L=6
 case neg=>
  rw [qk8 h6];exact qmg h6
 rw [decide_eq_true h6]at hO
 unfold entryF
 unfold byO tellF at ha
 unfold emO at hb
 have e1:(ofKey L byK=[]∨kindOf (ofKey L byK)=4)↔a.isSome=true:=by
  subst ha;by_cases c1:ofKey L byK=[]
  ·rw [if_pos c1];exact ⟨fun _=> rfl,fun _=> .inl c1⟩
  ·rw [if_neg c1]
   by_cases c2:kindOf (ofKey L byK)=4
   ·rw [if_pos c2];exact ⟨fun _=> rfl,fun _=> .inr c2⟩
   ·rw [if_neg c2];exact ⟨fun h=> (h.elim c1 c2).elim,fun h=> by cases h⟩
 have e2:(ofKey L emptyK=[]∨kindOf (ofKey L emptyK)=1∨kindOf (ofKey L emptyK)=2)↔b.isSome=true:=by
  subst hb;by_cases c1:ofKey L emptyK=[]
  ·rw [if_pos c1];exact ⟨fun _=> rfl,fun _=> .inl c1⟩
  ·rw [if_neg c1]
   by_cases c2:kindOf (ofKey L emptyK)=1
   ·rw [if_pos c2];exact ⟨fun _=> rfl,fun _=> .inr (.inl c2)⟩
   ·rw [if_neg c2]
    by_cases c3:kindOf (ofKey L emptyK)=2
    ·rw [if_pos c3];exact ⟨fun _=> rfl,fun _=> .inr (.inr c3)⟩
    ·rw [if_neg c3];exact ⟨fun h=> (h.elim c1 (fun h=> h.elim c2 c3)).elim,fun h=> by cases h⟩
 cases a with
 | none=>
  rw [qf3];exact if_neg fun h=> by have:=e1.1 h.2.1;cases this
 | some x=> cases b with
  | none=> exact if_neg fun h=> by have:=e2.1 h.2.2;cases this
  | some y=>
   rw [if_pos ⟨hO,e1.2 rfl,e2.2 rfl⟩];have t1:textOf (ofKey L byK)=x:=by
    by_cases c1:ofKey L byK=[]
    ·rw [if_pos c1]at ha
     rw [c1];exact Option.some.inj ha
    ·rw [if_neg c1]at ha
     split at ha
     ·exact Option.some.inj ha
     ·cases ha
   have t2:decide (kindOf (ofKey L emptyK)=1)=y:=by
    by_cases c1:ofKey L emptyK=[]
    ·rw [if_pos c1]at hb
     rw [c1];exact Option.some.inj hb
    ·rw [if_neg c1]at hb
     by_cases c2:kindOf (ofKey L emptyK)=1
     ·rw [if_pos c2]at hb
      rw [decide_eq_true c2];exact Option.some.inj hb
     ·rw [if_neg c2]at hb
      rw [decide_eq_false c2];split at hb
      ·exact Option.some.inj hb
      ·cases hb
   rw [t1,t2];exact (if_pos h6).symm
def rowX (h:Hist):List V:=if okH h=true then rowH h else []
theorem qhw:rightPF []=false:=by
 cases h:rightPF []with
 | false=> rfl
 | true=> exact absurd (qav h) (Nat.lt_irrefl _)
theorem qya (L:List V) (key:List UInt8):setA L key []=[]:=by
 unfold setA
 exact if_neg fun h=> by rw [qhw]at h;cases h.2
theorem qxc:sortA []=[]:=by
 unfold sortA
 exact if_neg (by rw [qhw];exact fun h=> by cases h)
theorem qyo {c:Cfg} (hp:plainF c.rest rootK histK=true) (h1:c.ids.length≤60) (h2:c.hist.length≤200) (h3:0 < c.hist.length→layersN c.hist=c.ids.length):
  rowC c=sortA (if c.hist=[] then setA c.rest rootK (rootV c.ids) else setA (setA c.rest rootK (rootV c.ids)) histK (listA (c.hist.map rowX))):=by
 have hok:okC c=c.hist.all okH:=by
  unfold okC;rw [hp,decide_eq_true h1,decide_eq_true h2,decide_eq_true h3];rfl
 unfold rowC
 rw [hok]
 cases ha:c.hist.all okH with
 | true=>
  rw [if_pos rfl];have e:c.hist.map rowX=c.hist.map rowH:=List.map_congr_left fun h hm=> if_pos (List.all_eq_true.1 ha h hm)
  rw [e];rfl
 | false=>
  rw [if_neg (fun h=> by cases h)];obtain ⟨h,hm,hb⟩:∃h∈c.hist,¬okH h=true:=by
   refine Classical.byContradiction fun hn=> ?_
   have:c.hist.all okH=true:=List.all_eq_true.2 fun h hm=> Classical.byContradiction fun hb=> hn ⟨h,hm,hb⟩
   rw [ha]at this
   cases this
  have hne:¬c.hist=[]:=fun e=> by rw [e]at hm;cases hm
  have hl:listA (c.hist.map rowX)=[]:=by
   unfold listA;refine if_neg fun hr=> ?_
   have:=List.all_eq_true.1 hr (rowX h) (List.mem_map.2 ⟨h,hm,rfl⟩)
   unfold rowX at this;rw [if_neg hb,qhw]at this
   cases this
  rw [if_neg hne,hl,qya,qxc]
theorem ql1 {c:Cfg} (h:plainF c.rest rootK histK=false∨¬c.ids.length≤60∨¬c.hist.length≤200∨¬(0 < c.hist.length→layersN c.hist=c.ids.length)):rowC c=[]:=by
 refine qp4 ?_
 unfold okC
 rcases h with h | h | h | h
 ·rw [h];rfl
 ·rw [decide_eq_false h,Bool.and_false];rfl
 ·rw [decide_eq_false h,Bool.and_false];rfl
 ·rw [decide_eq_false h,Bool.and_false];rfl
theorem qqq:∀H:List Hist,(H.map rowX).flatten.length≤(H.map rowH).flatten.length
 | []=> Nat.le_refl _
 | h::H=> by
  have ih:=qqq H
  rw [List.map_cons,List.map_cons,List.flatten_cons,List.flatten_cons,List.length_append,List.length_append];have:(rowX h).length≤(rowH h).length:=by
   unfold rowX;split
   ·exact Nat.le_refl _
   ·exact Nat.zero_le _
  omega
theorem qtu {L:List V} {a b:List UInt8} (h0:0 < L.length) (hk:kindOf L=6) (hs:sortA L=L):plainF L a b=(decide (getA L 0 a=none) && decide (getA L 0 b=none)):=by
 have hr:rightPF L=true:=by
  cases h:rightPF L with
  | true=> rfl
  | false=>
   unfold sortA at hs;rw [if_neg (by rw [h];exact fun e=> by cases e)]at hs
   rw [←hs]at h0
   exact absurd h0 (Nat.lt_irrefl _)
 unfold plainF isO
 rw [hr,decide_eq_true hk,←qd1 hr,decide_eq_true hs,Bool.and_true]
 rfl
theorem qln {L:List V} {a b:List UInt8} (hs:sortA L≠L):plainF L a b=false:=by
 cases hr:rightPF L with
 | false=> exact q0b hr
 | true=>
  unfold plainF;rw [←qd1 hr,decide_eq_false hs,Bool.and_false]
theorem qld {L:List V} {a b:List UInt8} (h:kindOf L≠6):plainF L a b=false:=by
 unfold plainF isO
 rw [decide_eq_false h,Bool.and_false]
 rfl
end Jo
end Go.Proofs.YtgmangikcfakgaaGreatDoor
