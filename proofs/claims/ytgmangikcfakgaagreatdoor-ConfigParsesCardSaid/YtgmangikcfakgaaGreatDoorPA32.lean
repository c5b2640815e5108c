import Derived.Test.YtgmangikcfakgaaGreatDoorPA23
import Derived.Test.YtgmangikcfakgaaGreatDoorPA25
import Derived.Test.YtgmangikcfakgaaGreatDoorPA31
set_option maxRecDepth 100000
set_option maxHeartbeats 40000000
namespace Go.Proofs.YtgmangikcfakgaaGreatDoor
open Go.RowKit Sh Jt Js Jo
theorem ValsAt.range {w:World} {b o n c:Nat} {L:List V} (h:ValsAt w (some ⟨b,o,none⟩) n c L) {i:Nat} (hi:i < L.length):w.rangeAt b (o+i*4) (vv L[i]):=by
 obtain ⟨b',o',e,_,hr⟩:=h.at_ (by have:=h.len;omega)
 cases e
 intro j v hj
 have hj4:j < 4:=(List.getElem?_eq_some_iff.1 hj).1
 rw [Nat.add_assoc]
 exact hr _ _ (by rw [qdi L i j hi hj4];exact hj)
theorem qhe:(Tryz.prog.info? 72).map (·.size)=some 4:=by kernel_rfl
theorem qw1 (v:V):(vv v).toArray.all (·.oneCell')=true:=all_oneCell_toArray (fun u hu=> qet [v] u (by show u∈vv v++[];rw [List.append_nil];exact hu))
theorem q1m (w:World) (A:Option Addr) (n c:Nat) (L:List V) (hL:ValsAt w A n c L) (hn:n≤5000) (hs:Short 1000000000 L):
  Calls Tryz.prog 34 #[.slice A n c] w fun e w'=> ∃v',e= .returned (.tuple #[v', .bool (idsF L).isSome])∧Hid (OwnGs w' w.heap.size v' ((idsF L).getD [])∧Below w.heap.size w w'):=by
 have HT:=Qh (fun W (q:Below w.heap.size w W)=> qd2 W A n c L (hL.below q) (by omega) hs 0 typeK)
 have HK:=Qh (fun W (q:Below w.heap.size w W)=> qd2 W A n c L (hL.below q) (by omega) hs 0 diffK)
 change Hid (∀W,_→Calls _ _ #[_,_, .string ⟨#[116,121,112,101]⟩] _ _)at HT
 change Hid (∀W,_→Calls _ _ #[_,_, .string ⟨#[100,105,102,102,95,105,100,115]⟩] _ _)at HK
 have HIT:=Qh (fun W (q:Below w.heap.size w W) (a j:Int)=> qjo W A n c L (hL.below q) (by omega) hs a j)
 have HVC:=Qh (fun W (q:Below w.heap.size w W)=> hL.below q)
 have hlen:=hL.len
 have HS:=Qh hs
 have B0:=Qh (Below.refl w.heap.size w)
 obtain ⟨R,hR⟩:∃R,R=idsF L:=⟨_,rfl⟩
 rw [←hR]
 have HR:=Qh hR
 clear hR hL hs
 have pl0:plc none= -1:=rfl
 have pls:∀q:Nat,plc (some q)=(q:Int):=fun _=> rfl
 go_enter Tryz.func34,Tryz.ntmps34
 go_wp2_with fail
 refine (HT.out w B0.out).mono ?_
 rintro e w1 ⟨rfl,K1⟩
 have B1:=Qh (B0.out.trans (K1.out.mono B0.out.size))
 clear B0 K1 HT
 go_wp2_with fail
 refine (HK.out w1 B1.out).mono ?_
 rintro e w2 ⟨rfl,K2⟩
 have B2:=Qh (B1.out.trans (K2.out.mono B1.out.size))
 clear B1 K2 HK
 cases hgt:getA L 0 typeK with
 | none=>
  have hx:R=none:=by rw [HR.out];exact qqo (.inl hgt)
  subst hx;rw [pl0];generalize plc (getA L 0 diffK)=zk;clear HR HIT HVC pl0 pls hgt HS;go_wp2_with fail;go_ret2;exact ⟨_,rfl,Qh ⟨OwnGs.nil _ _,B2.out⟩⟩
 | some t=>
  rw [pls];have ht0:¬(t:Int) < 0:=by omega
  cases hgk:getA L 0 diffK with
  | none=>
   have hx:R=none:=by rw [HR.out];exact qqo (.inr hgk)
   subst hx;rw [pl0];clear HR HIT HVC pl0 pls hgt hgk HS;go_wp2_with fail;go_ret2;exact ⟨_,rfl,Qh ⟨OwnGs.nil _ _,B2.out⟩⟩
  | some k=>
   rw [pls];have hk0:¬(k:Int) < 0:=by omega
   have hk9:(0:Int)≤(k:Int):=by omega
   have ht9:(0:Int)≤(t:Int):=by omega
   have ht:=(qbb hgt).1
   have hk:=(qbb hgk).1
   have htn:(t:Int) < (n:Int):=by omega
   have hkn:(k:Int) < (n:Int):=by omega
   have h00:(0:Int) < (n:Int):=by omega
   have h0:0 < L.length:=by omega
   have hct:countOf L=L[0].count:=by
    match L,h0 with
    | v::r,_=> rfl
   have HXX:Hid (R=if L[0].count=2∧L[t].kind=4∧L[t].text=layersK∧L[k].kind=5 then allO digO (partsL (ofKey L diffK)) else none):=Qh (by rw [HR.out,q28 hgt hgk (h1:=ht) (h2:=hk),hct])
   obtain ⟨b,o,rfl,hbl,_⟩:=(HVC.out w2 B2.out).at_ (by omega)
   have C0:w2.cell? ⟨b,o+3,none⟩=some (.int .i64 L[0].count):=by
    have:=((HVC.out w2 B2.out).cells h0).2.2.2
    rwa [Nat.zero_mul,Nat.add_zero]at this
   obtain ⟨T0, -,T2, -⟩:=(HVC.out w2 B2.out).cells ht
   obtain ⟨K0, -, -,K3⟩:=(HVC.out w2 B2.out).cells hk
   by_cases c1:L[0].count=2
   case neg=>
    have hx:R=none:=by rw [HXX.out];exact if_neg (fun h=> c1 h.1)
    subst hx;have cb:(L[0].count !=2)=true:=bne_iff_ne.2 c1
    generalize L[0].count=y0 at*;generalize L[t]=vt at*;generalize L[k]=vk at*;clear HR HIT HVC pl0 pls hgt hgk HS HXX hct c1;go_wp2_with fail;go_ret2;exact ⟨_,rfl,Qh ⟨OwnGs.nil _ _,B2.out⟩⟩
   rw [c1]at C0
   by_cases c2:L[t].kind=4
   case neg=>
    have hx:R=none:=by rw [HXX.out];exact if_neg (fun h=> c2 h.2.1)
    subst hx;have cb:(L[t].kind !=4)=true:=bne_iff_ne.2 c2
    generalize L[t]=vt at*;generalize vt.kind=y0 at*;generalize L[k]=vk at*;clear HR HIT HVC pl0 pls hgt hgk HS HXX hct c1 c2;go_wp2_with fail;go_ret2;exact ⟨_,rfl,Qh ⟨OwnGs.nil _ _,B2.out⟩⟩
   rw [c2]at T0
   by_cases c3:L[t].text=layersK
   case neg=>
    have hx:R=none:=by rw [HXX.out];exact if_neg (fun h=> c3 h.2.2.1)
    subst hx;generalize L[t]=vt at*;generalize L[k]=vk at*;have hb:¬(sb vt.text).toList=[108,97,121,101,114,115]:=by rw [qab];exact c3
    generalize sb vt.text=st at*;clear HR HIT HVC pl0 pls hgt hgk HS HXX hct c1 c2 c3;go_wp2_with fail;go_ret2;exact ⟨_,rfl,Qh ⟨OwnGs.nil _ _,B2.out⟩⟩
   have hb:(sb L[t].text).toList=[108,97,121,101,114,115]:=by rw [qab,c3];rfl
   by_cases c4:L[k].kind=5
   case neg=>
    have hx:R=none:=by rw [HXX.out];exact if_neg (fun h=> c4 h.2.2.2)
    subst hx;have cb:(L[k].kind !=5)=true:=bne_iff_ne.2 c4
    generalize L[t]=vt at*;generalize sb vt.text=st at*;generalize L[k]=vk at*;generalize vk.kind=y0 at*;clear HR HIT HVC pl0 pls hgt hgk HS HXX hct c1 c2 c3 c4;go_wp2_with fail;go_ret2;exact ⟨_,rfl,Qh ⟨OwnGs.nil _ _,B2.out⟩⟩
   rw [c4]at K0
   have hd5:kindOf (L.drop k)=5:=by rw [List.drop_eq_getElem_cons hk];exact c4
   obtain ⟨hcnt, -⟩:=qic hgk hd5
   have hck:countOf (L.drop k)=L[k].count:=by rw [List.drop_eq_getElem_cons hk];rfl
   rw [hck]at hcnt
   obtain ⟨_,_,_,hkr,hkk,_⟩:=qch hgk
   have hpf:=qot hkr (hkk.trans c4)
   have HDI:=Qh (fun (j:Nat) (hj:j < (partsL (ofKey L diffK)).length)=> qz7 hgk hd5 hj)
   have HCK:=Qh (fun W (q:Below w.heap.size w W)=> by
    have:=((HVC.out W q).cells hk).2.2.2
    rwa [←hcnt]at this)
   have HXY:Hid (R=allO digO (partsL (ofKey L diffK))):=Qh (by rw [HXX.out];exact if_pos ⟨c1,c2,c3,c4⟩)
   clear HXX HR hct c1 c2 c3 c4 hkr hkk hck hgk hgt K3 pl0;generalize partsL (ofKey L diffK)=PP at*;obtain ⟨pn,hpn⟩:∃pn,pn=PP.length:=⟨_,rfl⟩
   rw [←hpn]at HCK hpf
   have HPN:=Qh hpn
   clear hpn hcnt;have c3:=HCK.out w2 B2.out
   generalize sb L[t].text=st at*;generalize L[0].count=y0 at*;go_upto_region 7 with fail;clear C0 T0 T2 K0 hb;go_wp2_with fail;go_loopg [6,7] pn (fun g v6 v7 wx=> ∃(j:Nat) (ds:List (List UInt8)),v7= .int .i64 (j:Int)∧j+g=pn∧Hid (allO digO (PP.take j)=some ds)∧Hid (ds.length=j)∧Hid (OwnGs wx w.heap.size v6 ds∧Below w.heap.size w wx))
   case atStart=> exact ⟨0,[],rfl,by omega,Qh rfl,Qh rfl,Qh ⟨OwnGs.nil _ _,B2.out⟩⟩
   case round=>
    clear B2 c3;obtain ⟨j,ds,rfl,hjg,HA,HDL,HX⟩:=hrel
    have x3:=HCK.out wr HX.out.2
    cases gk with
    | zero=>
     obtain rfl:j=pn:=by omega
     have hge:¬(j:Int) < (j:Int):=by omega
     rw [List.take_of_length_le (Nat.le_of_eq HPN.out.symm)]at HA
     have hx:R=some ds:=HXY.out.trans HA.out
     subst hx;go_wp2_with fail;go_ret2;exact ⟨_,rfl,HX⟩
    | succ g=>
     have hlt:(j:Int) < (pn:Int):=by omega
     have hj:j < PP.length:=by rw [←HPN.out];omega
     obtain ⟨p,hip,hp,hdp⟩:=HDI.out j hj
     have HIX:=Qh (HIT.out wr HX.out.2 (k:Int) (j:Int))
     rw [hip,pls]at HIX
     have HVP:=Qh (fun W (q:Below w.heap.size w W)=> (HVC.out W q).range hp)
     have htd:L[p].text.length≤1000000000:=(HS.out _ (List.getElem_mem hp)).2
     have hpn9:(p:Int) < (n:Int):=by omega
     have hp9:(0:Int)≤(p:Int):=by omega
     have HNX:=Qh (show PP.take (j+1)=PP.take j++[PP[j]]from List.take_succ_eq_append_getElem hj)
     have HNO:=Qh (show digO PP[j]=none→R=none from fun h=> HXY.out.trans (qek (List.getElem_mem hj) h))
     have HAP:=Qh (fun d (h:digO PP[j]=some d)=> show allO digO (PP.take (j+1))=some (ds++[d])from by rw [HNX.out];exact qej HA.out h)
     have HDP:=Qh hdp
     clear hip hdp HNX HA HDI HIT HXY;generalize digO PP[j]=Y0 at*;generalize L[p]=vp at*;clear hj hp;go_wp2_with fail;refine HIX.out.mono ?_
     rintro e w9 ⟨rfl,K9⟩;have HX9:=Qh (show OwnGs w9 w.heap.size u6 ds∧Below w.heap.size w w9 from ⟨HX.out.1.below K9.out,HX.out.2.trans (K9.out.mono HX.out.2.size)⟩)
     clear HX K9 HIX x3;have HRG:=Qh (HVP.out w9 HX9.out.2)
     go_upto_region 10 with (first
      | ((with_reducible refine qas ?_ 72 (.tmp 66) ?_ b (o+p*4) (vv vp) (vv vp).toArray ?_ _ ?_ Tryz.underlying72 ?_ ?_ ?_ ?_);rfl;rfl;go_must (rfl;exact HRG.out;rfl;exact qhe;rfl))
      | ((with_reducible refine qaf ?_ 72 (.tmp 8) (.tmp 67) ?_ w9.heap.size (vv vp) ?_ ?_ [.int .i64 0, .string ⟨#[]⟩, .string ⟨#[]⟩, .int .i64 0] ?_ ?_ ?_ ?_ ?_);rfl;rfl;go_must (rfl;rfl;rfl;exact Row.at_ _ _ _ rfl rfl;exact qhe;exact qw1 vp;intro w10 R10 K10 E10)))
     have KB10:=Qh (show Below w9.heap.size w9 w10 from (qaq K10.out).below (Nat.le_refl _) (fun _ _ h=> h))
     have HX10:=Qh (show OwnGs w10 w.heap.size u6 ds∧Below w.heap.size w w10 from ⟨HX9.out.1.below KB10.out,HX9.out.2.trans (KB10.out.mono HX9.out.2.size)⟩)
     clear HX9 K10 E10 KB10 HRG HVP;generalize w9.heap.size=q1 at*;have x2:w10.cell? ⟨q1,2,none⟩=some (.string (sb vp.text)):=R10.out.cell (i:=2) rfl
     go_wp2_with fail;have HDQ:=Qh (show Calls _ _ #[.string (sb vp.text)] _ _ from qqf vp.text htd w10)
     have hdl:=Dg.orZero_length vp.text
     generalize Dg.parse vp.text=Y at*;refine HDQ.out.mono ?_
     rintro e w11 ⟨rfl,K11⟩;have HX11:=Qh (show OwnGs w11 w.heap.size u6 ds∧Below w.heap.size w w11 from ⟨HX10.out.1.below K11,HX10.out.2.trans (K11.mono HX10.out.2.size)⟩)
     have R11:=Qh (show Row w11 q1 72 (vv vp)from R10.out.below K11 R10.out.lt)
     clear x2 HX10 R10 K11 HDQ;obtain ⟨G,hG⟩:∃G,G=Dg.orZero Y:=⟨_,rfl⟩
     rw [←hG]at hdl ⊢
     have HG:=Qh hG
     have HDL2:=Qh hdl
     clear hdl hG;go_upto_region 11 with ((with_reducible refine qaf ?_ 52 (.tmp 9) (.tmp 72) ?_ w11.heap.size (G.map v8) ?_ ?_ (List.replicate 32 (v8 0)) ?_ ?_ ?_ ?_ ?_);rfl;rfl;go_must (rfl;rfl;(rw [List.length_replicate,List.length_map,HDL2.out]);exact Row.at_ _ _ _ rfl rfl;(rw [List.length_map,HDL2.out];exact qdc);exact qbl v8 (fun _=> rfl) G;intro w12 R12 K12 S12))
     have KB12:=Qh (show Below w11.heap.size w11 w12 from (qaq K12.out).below (Nat.le_refl _) (fun _ _ h=> h))
     have HX12:=Qh (show OwnGs w12 w.heap.size u6 ds∧Below w.heap.size w w12 from ⟨HX11.out.1.below KB12.out,HX11.out.2.trans (KB12.out.mono HX11.out.2.size)⟩)
     have R12b:=Qh (show Row w12 q1 72 (vv vp)from R11.out.below KB12.out R11.out.lt)
     clear HX11 R11 K12 S12 KB12;generalize w11.heap.size=q2 at*;have x0:w12.cell? ⟨q1,0,none⟩=some (.int .i64 vp.kind):=R12b.out.cell (i:=0) rfl
     by_cases hk4:vp.kind=4
     case neg=>
      have hx:R=none:=HNO.out (by rw [HDP.out];exact if_neg hk4)
      subst hx;have cb:(vp.kind !=4)=true:=bne_iff_ne.2 hk4
      generalize Y.isSome=ys at*;clear hk4 HDP HNO HAP R12b;generalize vp.kind=vk at*;go_wp2_with fail;go_ret2;exact ⟨_,rfl,Qh ⟨OwnGs.nil _ _,HX12.out.2⟩⟩
     rw [hk4]at x0
     have HY:Hid (Y0=Y):=Qh (by rw [HDP.out];exact if_pos hk4)
     clear HDP hk4;cases Y with
     | none=>
      have hx:R=none:=HNO.out HY.out
      subst hx;simp only [Option.isSome_none]
      clear HNO HAP R12b;go_wp2_with fail;go_ret2;exact ⟨_,rfl,Qh ⟨OwnGs.nil _ _,HX12.out.2⟩⟩
     | some d=>
      have hGd:G=d:=HG.out
      subst hGd;have HA2:=Qh (HAP.out G HY.out)
      clear HNO HAP HY HG;simp only [Option.isSome_some]
      have HLN:=Qh (show (ds++[G]).length=j+1 from by rw [List.length_append,HDL.out];rfl)
      have HSB:=Qh (show w.heap.size≤(w12.alloc (.cells (G.map v8).toArray 52)).heap.size from Nat.le_trans HX12.out.2.size (qac w12 _).size)
      go_upto_region 8 with (first
       | ((with_reducible refine qas ?_ 52 (.tmp 9) ?_ q2 0 (G.map v8) (G.map v8).toArray ?_ _ ?_ Tryz.underlying52 ?_ ?_ ?_ ?_);rfl;rfl;go_must (rfl;exact qan R12.out;rfl;(rw [List.length_map,HDL2.out];exact qdc);rfl))
       | (with_reducible refine qgt rfl _ rfl G (G.map v8).toArray rfl HDL2.out rfl ?_)
       | (at_builtin;go_must ((with_reducible refine qmq rfl _ _ rfl w.heap.size u6 ds rfl (HX12.out.1.below (qac _ _)) ⟨w12.heap.size,0,none⟩ 1 1 [G] rfl (qjp w12 HDL2.out rfl) (by rw [HDL.out];omega) HSB.out ?_);intro v14 w14 h1 h2 h3)))
      have HX14:=Qh (show OwnGs w14 w.heap.size v14 (ds++[G])∧Below w.heap.size w w14 from ⟨h1.out,(HX12.out.2.trans ((qac w12 _).mono HX12.out.2.size)).trans (qak h2.out HSB.out (fun i hi e=> by have:=e.1;omega))⟩)
      clear HX12 h1 h2 h3 R12 R12b x0;go_wp2_with fail;go_roundg g
      case measure=> omega
      case rel=> exact ⟨j+1,ds++[G],by go_num,by omega,HA2,HLN,HX14⟩
theorem qi3 {w:World} {ops:Array Oper} {o:Oper} {a:Act} {K:Act→World→Prop} {Q:Exit→Act→World→Prop} {E:Prop} (hg:o.guard=none) (s x:Operand)
  (ho:o.op= .call {callee:= .builtin .append,args:=#[s,x],argTypes:=#[26,26]}) (B:Nat) (v:Value) (L:List V) (hs:a.eval s=v) (hown:OwnVals w B v L)
  (ad:Addr) (n c:Nat) (M:List V) (hx:a.eval x= .slice (some ad) n c) (hsrc:ValsAt w (some ad) n c M) (hb:L.length+n≤1000000000000) (hB:B≤w.heap.size)
  (h:∀v' w',Hid (OwnVals w' B v' (L++M))→Hid (Kept w w' (fun k=> B≤k∧v.ownBlock=some k))→Hid (∀k,v'.ownBlock=some k→v.ownBlock=some k∨w.heap.size≤k)→K (a.put o.dst v') w'):
  if Region.wanted o (yielded ops a.tmps)=true then Oper.wp Tryz.prog o a w K Q else E:=by
 rw [if_pos (by simp [Region.wanted,hg])]
 obtain ⟨i,hi,hz,hsz,hby⟩:=qc0
 have hlen:=hsrc.len
 have hnews:∀j u,(cellsV M)[j]? =some u→w.cell? (ad.add j)=some u:=by
  intro j u hj;have hjl:=(List.getElem?_eq_some_iff.1 hj).1
  rw [qa0]at hjl
  obtain ⟨b,off,e,_,hr⟩:=hsrc.at_ (by omega)
  simp only [Option.some.injEq]at e
  subst e;rw [Addr.add_mid];exact hr j u hj
 obtain ⟨v',w',hr,h2,h3,h4,h5⟩:=run_append_own_at (P:=Tryz.prog) w B 26 o.type 72 i (.agg #[.int .i64 0, .string ⟨#[]⟩, .string ⟨#[]⟩, .int .i64 0]) 4 48 Tryz.underlying26 hi hz hsz hby rfl (by decide) v L.length (cellsV L) hown ad n c (cellsV M)
  (by rw [qa0,hlen]) hnews (qet M) (by unfold maxLen;omega) (by omega) hB
 unfold Oper.wp execOp
 simp only [ho,resolve,invoke,builtin,Sem.run_bind,Sem.run_pure,Result.andThen_ok,List.map_toArray,List.map_cons,List.map_nil,hs,hx,hr]
 refine h v' w' ?_ ?_ ?_
 ·show w'.ownsRow B _ 4 v' (L++M).length (cellsV (L++M))
  rw [List.length_append,hlen,qdr];exact h2
 ·refine ⟨h3.os,h3.tape,h3.output,h3.size,fun k hk hn=> h3.block k hk (fun e=> hn ?_)⟩
  obtain ⟨_,⟨rfl,_⟩ | ⟨g,cap,cur,rfl,hg,_⟩⟩:=hown
  ·cases e
  ·have e':g=k:=by simpa [Value.ownBlock] using e.symm
   subst e'
   exact ⟨hg,rfl⟩
 ·intro k hk
  rcases h5 with h5 | h5
  ·exact .inl (h5▸hk)
  ·rw [h5]at hk
   exact .inr (Nat.le_of_eq (Option.some.inj hk))
theorem qvj {w:World} {ops:Array Oper} {o:Oper} {a:Act} {K:Act→World→Prop} {Q:Exit→Act→World→Prop} {E:Prop} (hg:o.guard=none) (f:FuncId) (args:Array Value) (hrun:(execOp a.eval o).run Tryz.prog w= .ok (.enter f args) w) {R:Ending→World→Prop}
  (hc:Calls Tryz.prog f args w R) (h:∀e w',R e w'→∃v,e= .returned v∧K (a.put o.dst v) w'):if Region.wanted o (yielded ops a.tmps)=true then Oper.wp Tryz.prog o a w K Q else E:=by
 rw [if_pos (by simp [Region.wanted,hg])]
 exact qd9 f args hrun hc h
theorem OwnVals.cut {w:World} {B g n c:Nat} {L:List V} (h:OwnVals w B (.slice (some ⟨g,0,none⟩) n c) L) {m:Nat} (hm:m≤n):OwnVals w B (.slice (some ⟨g,0,none⟩) m c) (L.take m):=by
 have hl:=h.at_.2
 obtain ⟨_,⟨e,_⟩ | ⟨g',cap,cur,e,hg,hh,hn,hc,hs,ht⟩⟩:=h
 ·cases e
 ·simp only [Value.slice.injEq,Option.some.injEq,Addr.mk.injEq]at e
  obtain ⟨⟨rfl,_⟩,rfl,rfl⟩:=e
  have hlt:(L.take m).length=m:=by rw [List.length_take];omega
  refine ⟨by rw [qa0], .inr ⟨g,c,cur,by rw [hlt],hg,hh,by omega,hc,hs, ?_⟩⟩
  rw [hlt];have e2:cellsV (L.take m)=(cellsV L).take (m*4):=by
   have:=qdr (L.take m) (L.drop m)
   rw [List.take_append_drop]at this
   rw [this,List.take_left' (by rw [qa0,hlt])]
  rw [e2,←ht,List.take_take,Nat.min_eq_left (by omega)]
namespace Jo
theorem qzi {L:List V} (hr:rightPF L=true) (h0:0 < L.length):isO L=(L[0].kind==6):=by
 unfold isO
 rw [hr,Bool.true_and,qmj h0]
 by_cases h:L[0].kind=6
 ·rw [h];rfl
 ·rw [decide_eq_false h,beq_eq_false_iff_ne.2 h]
end Jo
theorem qb7 (w:World) (A:Option Addr) (n c:Nat) (L:List V) (hL:ValsAt w A n c L) (hn:n≤40000) (hs:Short 1000000000 L) (key:List UInt8):
  Calls Tryz.prog 39 #[.slice A n c, .string (sb key)] w fun e w'=> ∃v',e= .returned v'∧Hid (OwnVals w' w.heap.size v' (dropA L key)∧Below w.heap.size w w'):=by
 have HRL:=Qh (qhy w A n c L hL (by omega) hs)
 obtain ⟨RV,hRV⟩:∃RV,RV=dropA L key:=⟨_,rfl⟩
 rw [←hRV]
 have HRV:=Qh hRV
 clear hRV
 cases hrl:rightPF L with
 | false=>
  have HX:Hid (RV=[]):=Qh (by rw [HRV.out];unfold dropA isO;rw [if_neg (fun h=> by rw [hrl]at h;cases h)])
  rw [hrl]at HRL
  clear hrl HRV hL hs;generalize sb key=K at*;go_enter Tryz.func39,Tryz.ntmps39
  go_wp2_with fail;refine HRL.out.mono ?_
  rintro e w2 ⟨rfl,HB2⟩;clear HRL;go_wp2_with fail;go_ret;exact ⟨_,rfl,Qh ⟨by rw [HX.out];exact OwnVals.nil _ _,HB2.out⟩⟩
 | true=>
  rw [hrl]at HRL
  have h0:=(qbo hrl).2.1
  have hlen:=hL.len
  have hcap:=hL.cap
  have hio:=qzi hrl h0
  obtain ⟨b,o,rfl,_,_⟩:=hL.at_ (by omega)
  have HC0:=Qh (show w.cell? ⟨b,o,none⟩=some (.int .i64 L[0].kind)from by have x0:=(hL.cells h0).1;rw [Nat.zero_mul,Nat.add_zero]at x0;exact x0)
  have hn0:(0:Int) < (n:Int):=by omega
  have hn00:0 < n:=by omega
  by_cases hkd:L[0].kind=6
  ·have hO:isO L=true:=by rw [hio,hkd];rfl
   rw [hkd]at HC0
   have HG:=Qh (fun W (k:Below w.heap.size w W)=> qd2 W (some ⟨b,o,none⟩) n c L (hL.below k) (by omega) hs 0 key)
   have HLW:=Qh (fun W (k:Below w.heap.size w W)=> hL.below k)
   have HLL:=Qh hlen
   have hcb:0≤countOf L∧countOf L≤40000:=by
    have h1:=qcb hrl h0
    have h2:=(qbm h0).2.1
    rw [List.drop_zero]at h2
    rw [h2];omega
   cases hg:getA L 0 key with
   | none=>
    rw [hg]at HG
    change Hid (∀W,_→Calls _ _ _ _ fun e w'=> e= .returned (.int .i64 (-1))∧_)at HG
    have HX:Hid (RV=L):=Qh (by rw [HRV.out];unfold dropA;rw [if_pos hO,hg])
    clear HRV hL hs hrl h0 hlen hio hkd hO hg;generalize sb key=K at*;go_enter Tryz.func39,Tryz.ntmps39
    go_wp2_with fail;refine HRL.out.mono ?_
    rintro e w2 ⟨rfl,HB2⟩;have d0:w2.cell? ⟨b,o,none⟩=some (.int .i64 6):=(qad HB2.out).cell HC0.out (fun h=> h)
    have HOM:=Qh (qgk w2)
    have HB8:=Qh (HB2.out.trans ((below_alloc' w2 (.cells #[] 72)).mono HB2.out.size))
    have HLV:=Qh (HLW.out _ HB8.out)
    have HSZ8:=Qh (show w2.heap.size≤(w2.alloc (.cells #[] 72)).heap.size from (below_alloc' w2 _).size)
    clear HRL HC0 HLW;go_wp2_with (at_builtin;go_must (with_reducible refine qa6 rfl _ _ rfl w2.heap.size (.slice (some ⟨w2.heap.size,0,none⟩) 0 0) [] rfl HOM.out ⟨b,o,none⟩ n c L rfl HLV.out (by simp;omega) HSZ8.out ?_;intro v9 w9 h1 h2 h3;have HO9:=Qh (show OwnVals w9 w2.heap.size v9 L from by have h:=h1.out;rw [List.nil_append]at h;exact h);have HB9:=Qh (HB8.out.trans (qak h2.out HB8.out.size (fun i hi e=> by have:=HB2.out.size;omega)));clear h1 h2 h3))
    clear d0 HOM HLV HSZ8 HB8;refine (HG.out w9 HB9.out).mono ?_
    rintro e w10 ⟨rfl,HB10⟩;have HO10:=Qh ((HO9.out.below HB10.out).mono HB2.out.size)
    have HB11:=Qh (HB9.out.trans (HB10.out.mono HB9.out.size))
    clear HG HO9 HB9 HB10;go_wp2_with fail;go_ret;exact ⟨_,rfl,Qh ⟨by rw [HX.out];exact HO10.out,HB11.out⟩⟩
   | some p=>
    rw [hg]at HG
    change Hid (∀W,_→Calls _ _ _ _ fun e w'=> e= .returned (.int .i64 (p:Int))∧_)at HG
    obtain ⟨hp0,hpl⟩:=qlu hg
    have hzl:0 < rowE L p∧p+rowE L p≤L.length:=(qdl hrl hpl).2
    have HE:=Qh (fun W (k:Below w.heap.size w W)=> js_rend' W (some ⟨b,o,none⟩) n c L (hL.below k) (by omega) hrl p (by omega))
    have HX0:=Qh (HRV.out.trans (qno hO hg hp0 (Nat.le_of_lt hpl)))
    rw [hlen]at hpl hzl
    obtain ⟨e1,he1⟩:∃e1,e1=p+rowE L p:=⟨_,rfl⟩
    rw [←he1]at HE hzl HX0
    have hpe:p < e1:=by omega
    have hen:e1≤n:=hzl.2
    obtain ⟨AD,hAD⟩:∃AD:Addr,(if c=e1 then some (⟨b,o,none⟩:Addr) else some ⟨b,o+e1*4,none⟩)=some AD:=by split <;> exact ⟨_,rfl⟩
    have HBH:=Qh (fun W (k:Below w.heap.size w W)=> show ValsAt W (some AD) (n - e1) (c - e1) (L.drop e1)from by have h:=(hL.below k).behind hen hAD;rw [List.length_drop,hlen]at h;exact h)
    have HTL:Hid ((L.take p).length=p):=Qh (by rw [List.length_take,hlen];omega)
    have HXL:Hid ((L.take p++L.drop e1).length=p+(n - e1)):=Qh (by rw [List.length_append,List.length_take,List.length_drop,hlen];omega)
    have HCN:=Qh (show countOf (L.take p++L.drop e1)=countOf L from by
     have h2:=qez (l:=L) hp0
     match hq:L.take p,HTL.out with
     | v::r,_=>
      rw [hq]at h2
      exact h2
     | [],h=> exact absurd h.symm (by show ¬p=0;omega))
    have hpi:(0:Int)≤(p:Int):=by omega
    have hpc:(p:Int)≤(c:Int):=by omega
    have hpc2:p≤c:=by omega
    have hei:(0:Int)≤(e1:Int):=by omega
    have hen2:(e1:Int)≤(n:Int):=by omega
    have hdg:decide ((p:Int) < 0)=false:=decide_eq_false (by omega)
    have hng:¬(p:Int) < 0:=by omega
    clear HRV hL hs hrl h0 hlen hio hkd hO hg he1 hzl;generalize countOf L=CN at*;generalize sb key=K at*;go_enter Tryz.func39,Tryz.ntmps39
    go_wp2_with fail;refine HRL.out.mono ?_
    rintro e w2 ⟨rfl,HB2⟩;have d0:w2.cell? ⟨b,o,none⟩=some (.int .i64 6):=(qad HB2.out).cell HC0.out (fun h=> h)
    have HOM:=Qh (qgk w2)
    have HB8:=Qh (HB2.out.trans ((below_alloc' w2 (.cells #[] 72)).mono HB2.out.size))
    have HLV:=Qh (HLW.out _ HB8.out)
    have HSZ8:=Qh (show w2.heap.size≤(w2.alloc (.cells #[] 72)).heap.size from (below_alloc' w2 _).size)
    clear HRL HC0 HLW;go_wp2_with (at_builtin;go_must (with_reducible refine qa6 rfl _ _ rfl w2.heap.size (.slice (some ⟨w2.heap.size,0,none⟩) 0 0) [] rfl HOM.out ⟨b,o,none⟩ n c L rfl HLV.out (by simp;omega) HSZ8.out ?_;intro v9 w9 h1 h2 h3;have hg9:=h1.out.got (by rw [List.nil_append,HLL.out];exact hn00);rw [List.nil_append,HLL.out]at hg9;obtain ⟨g9,k9,rfl,hq1,hq2,hq3⟩:=hg9;have HO9:=Qh (show OwnVals w9 w2.heap.size (.slice (some ⟨g9,0,none⟩) n k9) L from by have h:=h1.out;rw [List.nil_append]at h;exact h);have HB9:=Qh (HB8.out.trans (qak h2.out HB8.out.size (fun i hi e=> by have:=HB2.out.size;omega)));have HS9:=Qh (show w2.heap.size≤w9.heap.size from Nat.le_trans HSZ8.out h2.out.size);clear h1 h2 h3))
    clear d0 HOM HLV HSZ8 HB8;refine (HG.out w9 HB9.out).mono ?_
    rintro e w10 ⟨rfl,HB10⟩;have HO10:=Qh ((HO9.out.below HB10.out).cut (m:=p) (by omega))
    have HB11:=Qh (HB9.out.trans (HB10.out.mono HB9.out.size))
    have HS10:=Qh (show w2.heap.size≤w10.heap.size from Nat.le_trans HS9.out HB10.out.size)
    have hpk:(p:Int)≤(k9:Int):=by omega
    have hpk2:p≤k9:=by omega
    clear HG HO9 HB9 HB10 HS9;go_upto_region 8 with fail;have HBD:=Qh (show Below w.heap.size w w10.drew from qaa HB11.out 1)
    have HOD:=Qh (show OwnVals w10.drew w2.heap.size (.slice (some ⟨g9,0,none⟩) p k9) (L.take p)from HO10.out.below (qaa (Below.refl _ _) 1))
    have HSD:=Qh (show w2.heap.size≤w10.drew.heap.size from HS10.out)
    clear HB11 HO10 HS10;go_region_law (first
     | (with_reducible refine qi3 rfl _ _ rfl w2.heap.size (.slice (some ⟨g9,0,none⟩) p k9) (L.take p) rfl HO12.out AD (n - e1) (c - e1) (L.drop e1) rfl HV12.out (by rw [HTL.out];omega) HS12.out ?_;intro v13 w13 h1 h2 h3;have hg13:=h1.out.got (by rw [HXL.out];omega);rw [HXL.out]at hg13;obtain ⟨g13,k13,rfl, -⟩:=hg13;have HO13:=Qh (show OwnVals w13 w2.heap.size (.slice (some ⟨g13,0,none⟩) (p+(n - e1)) k13) (L.take p++L.drop e1)from h1.out);have HB14:=Qh (HB13.out.trans (qak h2.out HB13.out.size (fun i hi e=> by have:=HB2.out.size;omega)));clear h1 h2 h3)
     | (refine qvj rfl 69 #[.slice (some ⟨b,o,none⟩) n c, .int .i64 (p:Int)] (by first | rfl | kernel_rfl) (HE.out w10.drew HBD.out) ?_;rintro e w12 ⟨rfl,HB12⟩;have HB13:=Qh (HBD.out.trans (HB12.out.mono HBD.out.size));have HO12:=Qh (HOD.out.below HB12.out);have HV12:=Qh (HBH.out w12 HB13.out);have HS12:=Qh (show w2.heap.size≤w12.heap.size from Nat.le_trans HSD.out HB12.out.size);refine ⟨_,rfl, ?_⟩))
    all_goals
     have hXp:0 < (L.take p++L.drop e1).length:=by rw [HXL.out];omega
     have f1:=HO13.out.unfrozen 3
     have y3:w13.cell? ⟨g13,3,none⟩=some (.int .i64 CN):=by
      obtain ⟨_,_,_,y3⟩:=HO13.out.at_.1.cells hXp
      have h2:=(qbm hXp).2.1
      rw [List.drop_zero]at h2
      rw [←h2,HCN.out,Nat.zero_mul,Nat.zero_add]at y3
      exact y3
     have hl1:(0:Int) < ((p+(n - e1):Nat):Int):=by omega
     have hl2:0 < p+(n - e1):=by omega
     have hset:=HO13.out.set (i:=0) (j:=3) hXp (by decide) (x:= .int .i64 (CN - 1)) (v:=⟨(L.take p++L.drop e1)[0].kind,(L.take p++L.drop e1)[0].key,(L.take p++L.drop e1)[0].text,CN - 1⟩) rfl
     rw [qit _ hXp,←HX0.out,Nat.zero_mul,Nat.zero_add]at hset
     have HZ:=Qh (hset.mono HB2.out.size)
     have HZB:=Qh (HB14.out.trans ((HO13.out.setBelow 3 (.int .i64 (CN - 1))).mono HB2.out.size))
     clear hset hXp;obtain ⟨ln,hln⟩:∃ln:Nat,ln=p+(n - e1):=⟨_,rfl⟩
     rw [←hln]at HZ hl1 hl2 ⊢
     clear hln;go_wp2_with fail;go_ret;exact ⟨_,rfl,Qh ⟨HZ.out,HZB.out⟩⟩
  ·have hO:isO L=false:=by rw [hio];exact beq_eq_false_iff_ne.2 hkd
   have hb6:(L[0].kind !=6)=true:=bne_iff_ne.2 hkd
   have HX:Hid (RV=[]):=Qh (by rw [HRV.out];unfold dropA;rw [if_neg (fun h=> by rw [hO]at h;cases h)])
   clear hrl HRV hL hs hio hkd hO;generalize L[0].kind=kd at*;generalize sb key=K at*;go_enter Tryz.func39,Tryz.ntmps39
   go_wp2_with fail;refine HRL.out.mono ?_
   rintro e w2 ⟨rfl,HB2⟩;have d0:w2.cell? ⟨b,o,none⟩=some (.int .i64 kd):=(qad HB2.out).cell HC0.out (fun h=> h)
   clear HRL HC0;go_wp2_with fail;go_ret;exact ⟨_,rfl,Qh ⟨by rw [HX.out];exact OwnVals.nil _ _,HB2.out⟩⟩
end Go.Proofs.YtgmangikcfakgaaGreatDoor
