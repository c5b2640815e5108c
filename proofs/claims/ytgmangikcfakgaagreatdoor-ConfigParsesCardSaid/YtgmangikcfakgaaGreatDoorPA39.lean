import Derived.Test.YtgmangikcfakgaaGreatDoorPA37
set_option maxRecDepth 100000
set_option maxHeartbeats 40000000
namespace Go.Proofs.YtgmangikcfakgaaGreatDoor
open Go.RowKit Sh Jt Js Jo
namespace Jo
theorem qjs (r:List V):(ones r).length=r.length:=List.length_map _
theorem q1w {r:List V} {j:Nat} (h:j < (ones r).length):(ones r)[j]=[r[j]'(by rw [←qjs r];exact h)]:=by
 exact List.getElem_map (fun v=> [v])
theorem q1v (v:V):digO [v]=if v.kind=4 then Dg.parse v.text else none:=by
 by_cases h:v.kind=4
 ·rw [if_pos h,q0m h]
 ·rw [if_neg h,qj8 h]
end Jo
theorem qs1 (w:World) (A:Option Addr) (n c:Nat) (L:List V) (hL:ValsAt w A n c L) (hn:n≤5000) (hs:Short 1000000000 L) (hr:L=[]∨rightPF L=true):
  Calls Tryz.prog 61 #[.slice A n c] w fun e w'=> ∃v',e= .returned (.tuple #[v', .bool (listO digO L).isSome])∧Hid (OwnGs w' w.heap.size v' ((listO digO L).getD [])∧Below w.heap.size w w'):=by
 have hlen:=hL.len
 have B0:=Qh (Below.refl w.heap.size w)
 obtain ⟨R,hR⟩:∃R,R=listO digO L:=⟨_,rfl⟩
 rw [←hR]
 rcases hr with rfl | hr
 ·obtain rfl:n=0:=hlen.symm
  have hx:R=none:=hR.trans (if_neg (by decide))
  subst hx;clear hL hs hR;go_enter Tryz.func61,Tryz.ntmps61
  go_wp2_with fail;go_ret2;exact ⟨_,rfl,Qh ⟨OwnGs.nil _ _,B0.out⟩⟩
 have hpos:=qav hr
 rw [qyc hr]at hR
 obtain ⟨v,r,rfl⟩:∃v r,L=v::r:=by
  match L,hpos with
  | v::r,_=> exact ⟨v,r,rfl⟩
 have h00:(0:Int) < (n:Int):=by omega
 have hnb:((n:Int)==0)=false:=beq_eq_false_iff_ne.2 (by omega)
 obtain ⟨b,o,rfl,hb,_⟩:=hL.at_ (by omega)
 have x0:w.cell? ⟨b,o,none⟩=some (.int .i64 v.kind):=hL.head.1
 by_cases h5:v.kind=5
 case neg=>
  have hx:R=none:=hR.trans (if_neg h5)
  subst hx;have hz5:(v.kind !=5)=true:=bne_iff_ne.2 h5
  generalize v.kind=vk at*;clear hL hs hR hr h5;go_enter Tryz.func61,Tryz.ntmps61
  go_wp2_with fail;go_ret2;exact ⟨_,rfl,Qh ⟨OwnGs.nil _ _,B0.out⟩⟩
 rw [h5]at x0
 have HXX:Hid (R=allO digO (ones r)):=Qh (hR.trans (if_pos h5))
 have hcap:=hL.cap
 obtain ⟨m,hm⟩:∃m,m=n - 1:=⟨n - 1,rfl⟩
 have hrl:r.length=m:=by rw [List.length_cons]at hlen;omega
 have HL:=Qh (fun W (q:Below w.heap.size w W)=> show ValsAt W (some ⟨b,o+1*4,none⟩) m (c - 1) r from by
  have:=(hL.below q).sub (i:=1) (k:=m) (by omega)
  rwa [show ((v::r).drop 1).take m=r from by rw [List.drop_one,List.tail_cons,←hrl,List.take_length]]at this)
 have HS:=Qh (fun x (hx:x∈r)=> (hs x (List.mem_cons_of_mem _ hx)).2)
 have s1:(1:Int)≤(n:Int):=by omega
 have s2:(n:Int)≤(c:Int):=by omega
 have s3:(1:Int)≤(c:Int):=by omega
 clear hL hs hR hr h5 hlen
 by_cases hc1:c=1
 ·obtain rfl:m=0:=by omega
  obtain rfl:n=1:=by omega
  subst hc1;have hx:R=some []:=HXX.out.trans (by rw [List.eq_nil_of_length_eq_zero hrl];rfl)
  subst hx;clear HXX HL HS hrl;go_enter Tryz.func61,Tryz.ntmps61
  go_upto_region 5 with fail;go_loopg [4,22] 0 (fun g v4 v22 wx=> v22= .int .i64 0∧v4= .slice none 0 0∧g=0∧wx=w)
  case atStart=> exact ⟨rfl,rfl,rfl,rfl⟩
  case round=>
   obtain ⟨rfl,rfl,rfl,rfl⟩:=hrel
   go_wp2_with fail;go_ret2;exact ⟨_,rfl,Qh ⟨OwnGs.nil _ _,B0.out⟩⟩
 go_enter Tryz.func61,Tryz.ntmps61
 go_upto_region 5 with fail
 clear x0
 go_loopg [4,22] m (fun g v4 v22 wx=> ∃(j:Nat) (ds:List (List UInt8)),v22= .int .i64 (j:Int)∧j+g=m∧Hid (allO digO ((ones r).take j)=some ds)∧Hid (ds.length=j)∧Hid (OwnGs wx w.heap.size v4 ds∧Below w.heap.size w wx))
 case atStart=> exact ⟨0,[],rfl,by omega,Qh rfl,Qh rfl,Qh ⟨OwnGs.nil _ _,B0.out⟩⟩
 case round=>
  clear B0;obtain ⟨j,ds,rfl,hjg,HA,HDL,HX⟩:=hrel
  cases gk with
  | zero=>
   obtain rfl:j=m:=by omega
   have hge:¬(j:Int) < (j:Int):=by omega
   rw [List.take_of_length_le (by rw [qjs];omega)]at HA
   have hx:R=some ds:=HXX.out.trans HA.out
   subst hx;go_wp2_with fail;go_ret2;exact ⟨_,rfl,HX⟩
  | succ g=>
   have hj:j < (ones r).length:=by rw [qjs];omega
   have hjr:j < r.length:=by omega
   have HVR:=Qh (fun W (q:Below w.heap.size w W)=> (HL.out W q).range hjr)
   have htd:=HS.out _ (List.getElem_mem hjr)
   have HNX:=Qh (show (ones r).take (j+1)=(ones r).take j++[(ones r)[j]]from List.take_succ_eq_append_getElem hj)
   have HDP:=Qh (show digO (ones r)[j]=if r[j].kind=4 then Dg.parse r[j].text else none from by rw [q1w hj];exact q1v _)
   have HNO:=Qh (show digO (ones r)[j]=none→R=none from fun h=> HXX.out.trans (qek (List.getElem_mem hj) h))
   have HAP:=Qh (fun d (h:digO (ones r)[j]=some d)=> show allO digO ((ones r).take (j+1))=some (ds++[d])from by rw [HNX.out];exact qej HA.out h)
   have hjm:(j:Int) < (m:Int):=by omega
   have hj0:(0:Int)≤(j:Int):=by omega
   clear HNX HA HXX;generalize digO (ones r)[j]=Y0 at*;generalize r[j]=vp at*;clear hj hjr;have HRG:=Qh (HVR.out wr HX.out.2)
   go_upto_region 7 with (first
    | ((with_reducible refine qas ?_ 72 (.tmp 24) ?_ b (o+4+j*4) (vv vp) (vv vp).toArray ?_ _ ?_ Tryz.underlying72 ?_ ?_ ?_ ?_);rfl;rfl;go_must (rfl;exact HRG.out;rfl;exact qhe;rfl))
    | ((with_reducible refine qaf ?_ 72 (.tmp 6) (.tmp 25) ?_ wr.heap.size (vv vp) ?_ ?_ [.int .i64 0, .string ⟨#[]⟩, .string ⟨#[]⟩, .int .i64 0] ?_ ?_ ?_ ?_ ?_);rfl;rfl;go_must (rfl;rfl;rfl;exact Row.at_ _ _ _ rfl rfl;exact qhe;exact qw1 vp;intro w10 R10 K10 E10)))
   have KB10:=Qh (show Below wr.heap.size wr w10 from (qaq K10.out).below (Nat.le_refl _) (fun _ _ h=> h))
   have HX10:=Qh (show OwnGs w10 w.heap.size u4 ds∧Below w.heap.size w w10 from ⟨HX.out.1.below KB10.out,HX.out.2.trans (KB10.out.mono HX.out.2.size)⟩)
   clear HX K10 E10 KB10 HRG HVR;generalize wr.heap.size=q1 at*;have x2:w10.cell? ⟨q1,2,none⟩=some (.string (sb vp.text)):=R10.out.cell (i:=2) rfl
   go_wp2_with fail;have HDQ:=Qh (show Calls _ _ #[.string (sb vp.text)] _ _ from qwd vp.text w10)
   have hdl:=Dg.orZero_length vp.text
   generalize Dg.parse vp.text=Y at*;refine HDQ.out.mono ?_
   rintro e w11 ⟨rfl,K11⟩;have HX11:=Qh (show OwnGs w11 w.heap.size u4 ds∧Below w.heap.size w w11 from ⟨HX10.out.1.below K11,HX10.out.2.trans (K11.mono HX10.out.2.size)⟩)
   have R11:=Qh (show Row w11 q1 72 (vv vp)from R10.out.below K11 R10.out.lt)
   clear x2 HX10 R10 K11 HDQ;obtain ⟨G,hG⟩:∃G,G=Dg.orZero Y:=⟨_,rfl⟩
   rw [←hG]at hdl ⊢
   have HG:=Qh hG
   have HDL2:=Qh hdl
   clear hdl hG;go_upto_region 8 with ((with_reducible refine qaf ?_ 52 (.tmp 7) (.tmp 30) ?_ w11.heap.size (G.map v8) ?_ ?_ (List.replicate 32 (v8 0)) ?_ ?_ ?_ ?_ ?_);rfl;rfl;go_must (rfl;rfl;(rw [List.length_replicate,List.length_map,HDL2.out]);exact Row.at_ _ _ _ rfl rfl;(rw [List.length_map,HDL2.out];exact qdc);exact qbl v8 (fun _=> rfl) G;intro w12 R12 K12 S12))
   have KB12:=Qh (show Below w11.heap.size w11 w12 from (qaq K12.out).below (Nat.le_refl _) (fun _ _ h=> h))
   have HX12:=Qh (show OwnGs w12 w.heap.size u4 ds∧Below w.heap.size w w12 from ⟨HX11.out.1.below KB12.out,HX11.out.2.trans (KB12.out.mono HX11.out.2.size)⟩)
   have R12b:=Qh (show Row w12 q1 72 (vv vp)from R11.out.below KB12.out R11.out.lt)
   clear HX11 R11 K12 S12 KB12;generalize w11.heap.size=q2 at*;have x0:w12.cell? ⟨q1,0,none⟩=some (.int .i64 vp.kind):=R12b.out.cell (i:=0) rfl
   cases Y with
   | none=>
    have hx:R=none:=HNO.out (by rw [HDP.out];split <;> rfl)
    subst hx;simp only [Option.isSome_none]
    clear HNO HAP R12b HDP x0;go_wp2_with fail;go_ret2;exact ⟨_,rfl,Qh ⟨OwnGs.nil _ _,HX12.out.2⟩⟩
   | some d=>
    have hGd:G=d:=HG.out
    subst hGd;simp only [Option.isSome_some]
    by_cases hk4:vp.kind=4
    case neg=>
     have hx:R=none:=HNO.out (by rw [HDP.out];exact if_neg hk4)
     subst hx;have cb:(vp.kind !=4)=true:=bne_iff_ne.2 hk4
     clear hk4 HDP HNO HAP R12b;generalize vp.kind=vk at*;go_wp2_with fail;go_ret2;exact ⟨_,rfl,Qh ⟨OwnGs.nil _ _,HX12.out.2⟩⟩
    rw [hk4]at x0
    have HA2:=Qh (HAP.out G (by rw [HDP.out];exact if_pos hk4))
    clear HNO HAP HDP HG hk4;have HLN:=Qh (show (ds++[G]).length=j+1 from by rw [List.length_append,HDL.out];rfl)
    have HSB:=Qh (show w.heap.size≤(w12.alloc (.cells (G.map v8).toArray 52)).heap.size from Nat.le_trans HX12.out.2.size (qac w12 _).size)
    go_upto_region 11 with (first
     | ((with_reducible refine qas ?_ 52 (.tmp 7) ?_ q2 0 (G.map v8) (G.map v8).toArray ?_ _ ?_ Tryz.underlying52 ?_ ?_ ?_ ?_);rfl;rfl;go_must (rfl;exact qan R12.out;rfl;(rw [List.length_map,HDL2.out];exact qdc);rfl))
     | (with_reducible refine qgt rfl _ rfl G (G.map v8).toArray rfl HDL2.out rfl ?_)
     | (at_builtin;go_must ((with_reducible refine qmq rfl _ _ rfl w.heap.size u4 ds rfl (HX12.out.1.below (qac _ _)) ⟨w12.heap.size,0,none⟩ 1 1 [G] rfl (qjp w12 HDL2.out rfl) (by rw [HDL.out];omega) HSB.out ?_);intro v14 w14 h1 h2 h3)))
    have HX14:=Qh (show OwnGs w14 w.heap.size v14 (ds++[G])∧Below w.heap.size w w14 from ⟨h1.out,(HX12.out.2.trans ((qac w12 _).mono HX12.out.2.size)).trans (qak h2.out HSB.out (fun i hi e=> by have:=e.1;omega))⟩)
    clear HX12 h1 h2 h3 R12 R12b x0;go_wp2_with fail;go_roundg g
    case measure=> omega
    case rel=> exact ⟨j+1,ds++[G],by go_num,by omega,HA2,HLN,HX14⟩
theorem qrh (w:World) (A:Option Addr) (n c:Nat) (L:List V) (hL:ValsAt w A n c L) (hn:n≤5000) (hs:Short 1000000000 L) (hT:TabOk w) (hr:L=[]∨rightPF L=true):
  Calls Tryz.prog 28 #[.slice A n c] w fun e w'=> ∃v',e= .returned (.tuple #[v', .bool (idsF L).isSome])∧Hid (OwnGs w' w.heap.size v' ((idsF L).getD [])∧Below w.heap.size w w'):=by
 have hlen:=hL.len
 have B0:=Qh (Below.refl w.heap.size w)
 obtain ⟨R,hR⟩:∃R,R=idsF L:=⟨_,rfl⟩
 rw [←hR]
 rcases hr with rfl | hr
 ·obtain rfl:n=0:=hlen.symm
  have hx:R=none:=hR.trans (if_neg (fun h=> absurd h.1 (by decide)))
  subst hx;clear hL hs hR;go_enter Tryz.func28,Tryz.ntmps28
  go_wp2_with fail;go_ret2;exact ⟨_,rfl,Qh ⟨OwnGs.nil _ _,B0.out⟩⟩
 have hpos:=qav hr
 have hct:countOf L=L[0].count:=by
  match L,hpos with
  | v::r,_=> rfl
 have HTY:=Qh (fun W (q:Below w.heap.size w W)=> qcz W A n c L (hL.below q) (by omega) hs (hT.below q) 0 typeK)
 change Hid (∀W,_→Calls _ _ #[_,_, .string ⟨#[116,121,112,101]⟩] _ _)at HTY
 have HDI:=Qh (fun W (q:Below w.heap.size w W)=> qcz W A n c L (hL.below q) (by omega) hs (hT.below q) 0 diffK)
 change Hid (∀W,_→Calls _ _ #[_,_, .string ⟨#[100,105,102,102,95,105,100,115]⟩] _ _)at HDI
 have HCU:=Qh (fun W (q:Below w.heap.size w W)=> qaj (L:=ofKey L diffK) rfl (qp0 W A n c L (hL.below q) (by omega) hs (hT.below q) (plc (getA L 0 diffK))))
 have HSK:=Qh (show Short 1000000000 (ofKey L diffK)from qb4 hs _)
 have hkl:(ofKey L diffK).length≤L.length:=qc6 _ _
 have HKR:=Qh (show ofKey L diffK=[]∨rightPF (ofKey L diffK)=true from by
  by_cases h:ofKey L diffK=[]
  ·exact .inl h
  ·obtain ⟨P,hP⟩:=qbn (qcv h)
   exact .inr (qfu hP h))
 have HVC:=Qh (fun W (q:Below w.heap.size w W)=> hL.below q)
 have hnb:((n:Int)==0)=false:=beq_eq_false_iff_ne.2 (by omega)
 have h00:(0:Int) < (n:Int):=by omega
 obtain ⟨b,o,rfl,hbl,_⟩:=hL.at_ (by omega)
 have x3:w.cell? ⟨b,o+3,none⟩=some (.int .i64 L[0].count):=by
  have:=((HVC.out w B0.out).cells hpos).2.2.2
  rwa [Nat.zero_mul,Nat.add_zero]at this
 have HXX:Hid (R=if L[0].count=2∧memF L typeK 4=some layersK then listO digO (ofKey L diffK) else none):=Qh (by rw [hR,←hct];rfl)
 clear hL hs hT hR hr hct
 by_cases h2:L[0].count=2
 case neg=>
  have hx:R=none:=HXX.out.trans (if_neg fun h=> h2 h.1)
  subst hx;have cb:(L[0].count !=2)=true:=bne_iff_ne.2 h2
  generalize L[0].count=y0 at*;clear HXX HTY HDI HCU HSK HKR HVC h2;go_enter Tryz.func28,Tryz.ntmps28
  go_wp2_with fail;go_ret2;exact ⟨_,rfl,Qh ⟨OwnGs.nil _ _,B0.out⟩⟩
 rw [h2]at x3
 have HX2:Hid (R=if memF L typeK 4=some layersK then listO digO (ofKey L diffK) else none):=Qh (by
  rw [HXX.out];by_cases h:memF L typeK 4=some layersK
  ·rw [if_pos ⟨h2,h⟩,if_pos h]
  ·rw [if_neg fun e=> h e.2,if_neg h])
 clear HXX h2
 go_enter Tryz.func28,Tryz.ntmps28
 go_wp2_with fail
 refine (HTY.out w B0.out).mono ?_
 rintro e w2 ⟨rfl,K2⟩
 have B2:=Qh K2.out
 clear K2 HTY x3 B0
 cases hg:getA L 0 typeK with
 | none=>
  have hx:R=none:=HX2.out.trans (if_neg (by rw [qqr hg (by decide)];exact fun h=> by cases h))
  subst hx;rw [show plc none= -1 from rfl];clear HX2 HDI HCU HSK HKR HVC hg;go_wp2_with fail;go_ret2;exact ⟨_,rfl,Qh ⟨OwnGs.nil _ _,B2.out⟩⟩
 | some p=>
  rw [show plc (some p)=(p:Int)from rfl];obtain ⟨hp,_,_⟩:=qbb hg
  have hmm:=qw6 hg (hp:=hp) 4
  obtain ⟨x0,_,x2,_⟩:=(HVC.out w2 B2.out).cells hp
  have hp9:(p:Int) < (n:Int):=by omega
  have hp0:(0:Int)≤(p:Int):=by omega
  have hq:((p:Int)== -1)=false:=beq_eq_false_iff_ne.2 (by omega)
  clear hg HVC;by_cases h4:L[p].kind=4
  case neg=>
   have hx:R=none:=HX2.out.trans (if_neg (by rw [hmm,if_neg h4];exact fun h=> by cases h))
   subst hx;have cb:(L[p].kind !=4)=true:=bne_iff_ne.2 h4
   clear HX2 HDI HCU HSK HKR hmm h4;generalize L[p]=vp at*;generalize vp.kind=y0 at*;go_wp2_with fail;go_ret2;exact ⟨_,rfl,Qh ⟨OwnGs.nil _ _,B2.out⟩⟩
  rw [h4]at x0
  rw [if_pos h4]at hmm
  by_cases ht:L[p].text=layersK
  case neg=>
   have hx:R=none:=HX2.out.trans (if_neg (by rw [hmm];exact fun h=> ht (Option.some.inj h)))
   subst hx;have hb2:((sb L[p].text).toList==[108,97,121,101,114,115])=false:=by rw [qab];exact beq_eq_false_iff_ne.2 ht
   clear HX2 HDI HCU HSK HKR hmm h4 ht;generalize L[p]=vp at*;generalize sb vp.text=st at*;go_wp2_with fail;go_ret2;exact ⟨_,rfl,Qh ⟨OwnGs.nil _ _,B2.out⟩⟩
  have HX3:=Qh (show R=listO digO (ofKey L diffK)from HX2.out.trans (if_pos (by rw [hmm,ht])))
  have hb2:((sb L[p].text).toList==[108,97,121,101,114,115])=true:=by rw [qab,ht];rfl
  clear HX2 hmm h4 ht;generalize L[p]=vp at*;generalize sb vp.text=st at*;go_wp2_with fail;refine (HDI.out w2 B2.out).mono ?_
  rintro e w3 ⟨rfl,K3⟩;have B3:=Qh (B2.out.trans (K3.out.mono B2.out.size))
  clear K3 HDI B2 x0 x2 hb2;go_wp2_with fail;refine (HCU.out w3 B3.out).mono ?_
  rintro e w4 ⟨A4,c4,rfl,K4⟩;have B4:=Qh (B3.out.trans (K4.out.2.2.mono B3.out.size))
  have HRI:=Qh (qs1 w4 A4 _ c4 (ofKey L diffK) K4.out.2.1 (by omega) HSK.out HKR.out)
  clear K4 HCU B3 HSK HKR;rw [←HX3.out]at HRI
  clear HX3;generalize (ofKey L diffK).length=kl at*;go_wp2_with fail;refine HRI.out.mono ?_
  rintro e w5 ⟨v5,rfl,K5⟩;have HF:=Qh (And.intro (K5.out.1.mono B4.out.size) (B4.out.trans (K5.out.2.mono B4.out.size)))
  clear K5 HRI B4;go_wp2_with fail;go_ret2;exact ⟨_,rfl,HF⟩
end Go.Proofs.YtgmangikcfakgaaGreatDoor
