import Derived.Test.YtgmangikcfakgaaGreatDoorPL39
namespace Go.Proofs.YtgmangikcfakgaaGreatDoor
open Go.RowKit Sh Jt Js Jo
set_option maxRecDepth 100000
namespace Jo
theorem LstIs.atC {L:List V} {P:List (List V)} (h:LstIs L P) {j:Nat} (hj:j < P.length):1+offs P j < L.length∧endN L (1+offs P j)=((1+offs P (j+1):Nat):Int)∧(L.drop (1+offs P j)).take P[j].length=P[j]∧1+offs P (j+1)≤L.length∧offs P (j+1)=offs P j+P[j].length∧0 < P[j].length:=by
 obtain ⟨v,_,e⟩:=h.eq
 have hd:L.drop 1=P.flatten++[]:=by rw [e,List.append_nil];rfl
 obtain ⟨y,hy⟩:=part_drop P L [] 1 hd j hj
 have he:=h.ends _ (List.getElem_mem hj)
 obtain ⟨_,_,r3⟩:=row_part hy he
 have h0:=h.ends.pos (List.getElem_mem hj)
 have hs:=offs_succ hj
 have hlen:=congrArg List.length hy
 rw [List.length_drop,List.length_append]at hlen
 have hlt:1+offs P j < L.length:=by omega
 refine ⟨hlt, ?_,by rw [hy,List.take_left],by omega,hs,h0⟩
 unfold endN
 rw [if_pos hlt,r3,hs]
 show ((1+offs P j:Nat):Int)+(P[j].length:Nat)=_
 omega
end Jo
set_option maxHeartbeats 16000000 in
theorem cf_readHistory (w:World) (A:Option Addr) (n c:Nat) (L:List V) (hL:ValsAt w A n c L) (hn:n≤5000) (hs:Short 1000000000 L) (hT:TabOk w) (hr:L=[]∨rightPF L=true):
  Calls Tryz.prog 29 #[.slice A n c] w (HistPost w (if L=[] then some [] else listO entryF L)):=by
 have hlen:=hL.len
 have B0:=Lib.hid (Below.refl w.heap.size w)
 obtain ⟨R,hR⟩:∃R,R=if L=[] then some [] else listO entryF L:=⟨_,rfl⟩
 rw [←hR]
 rcases hr with rfl | hr
 ·obtain rfl:n=0:=hlen.symm
  have HX:Hid (R=some []):=Lib.hid (hR.trans (if_pos rfl))
  clear hL hs hT hR
  go_enter Tryz.func29,Tryz.ntmps29
  go_wp2_with fail
  go_ret2
  rw [HX.out]
  exact ⟨_,[],rfl,Lib.hid rfl,Lib.hid ⟨OwnHists.nil _ _,B0.out⟩⟩
 have hpos:=right_pos hr
 obtain ⟨v,r,rfl⟩:∃v r,L=v::r:=by
  match L,hpos with
  | v::r,_=> exact ⟨v,r,rfl⟩
 rw [if_neg (fun h=> by cases h)]at hR
 have h00:(0:Int) < (n:Int):=by omega
 have hnb:((n:Int)==0)=false:=beq_eq_false_iff_ne.2 (by omega)
 obtain ⟨b,o,rfl,hb,_⟩:=hL.at_ (by omega)
 have x0:w.cell? ⟨b,o,none⟩=some (.int .i64 v.kind):=hL.head.1
 by_cases h5:v.kind=5
 case neg=>
  have HX:Hid (R=none):=Lib.hid (hR.trans (if_neg h5))
  have hz5:(v.kind !=5)=true:=bne_iff_ne.2 h5
  generalize v.kind=vk at*
  clear hL hs hT hR hr h5
  go_enter Tryz.func29,Tryz.ntmps29
  go_wp2_with fail
  go_ret2
  rw [HX.out]
  exact ⟨_,[],rfl,Lib.hid rfl,Lib.hid ⟨OwnHists.nil _ _,B0.out⟩⟩
 obtain ⟨P,hP⟩:=lst_is hr h5
 have HPR:Hid (∀p∈P,rightPF p=true):=Lib.hid (by
  have:=parts_right hr h5
  rw [hP.parts]at this
  exact this)
 have HXX:Hid (R=allO entryF P):=Lib.hid (by
  rw [hR]
  unfold listO
  rw [hP.parts]
  exact if_pos h5)
 rw [h5]at x0
 have HP:=Lib.hid hP
 have HS:=Lib.hid hs
 have HT:=Lib.hid (fun W (q:Below w.heap.size w W)=> hT.below q)
 have HL:=Lib.hid (fun W (q:Below w.heap.size w W)=> hL.below q)
 have hcap:=hL.cap
 have hall:=hP.all
 have hfew:=hP.few
 rw [hlen]at hall
 generalize v::r=L at*
 clear hP hs hT hL hr h5 hR
 go_enter Tryz.func29,Tryz.ntmps29
 go_upto_region 7 with fail
 clear x0
 go_loopg [4,5] P.length (fun g v4 v5 wx=> ∃(j:Nat) (Q:List Pe),v5= .int .i64 ((1+offs P j:Nat):Int)∧j+g=P.length∧Hid (allO entryF (P.take j)=some (histsOf Q))∧Hid (Q.length=j)∧Hid (OwnHists wx w.heap.size v4 Q∧Below w.heap.size w wx))
 case atStart=> exact ⟨0,[],rfl,by omega,Lib.hid rfl,Lib.hid rfl,Lib.hid ⟨OwnHists.nil _ _,B0.out⟩⟩
 case round=>
  clear B0
  obtain ⟨j,Q,rfl,hjg,HA,HDL,HX⟩:=hrel
  cases gk with
  | zero=>
   obtain rfl:j=P.length:=by omega
   rw [hall]
   rw [List.take_length]at HA
   have HRX:Hid (R=some (histsOf Q)):=Lib.hid (HXX.out.trans HA.out)
   have hge:¬(n:Int) < (n:Int):=by omega
   go_wp2_with fail
   go_ret2
   rw [HRX.out]
   exact ⟨_,Q,rfl,Lib.hid rfl,HX⟩
  | succ g=>
   have hj:j < P.length:=by omega
   obtain ⟨q1,q2,q3,q4,q5,q6⟩:=HP.out.atC hj
   have HLW:=Lib.hid (HL.out wr HX.out.2)
   have HSP:=Lib.hid (show Short 1000000000 P[j]from fun x hx=> HS.out x (by rw [←q3]at hx;exact List.mem_of_mem_drop (List.mem_of_mem_take hx)))
   have HPRJ:=Lib.hid (HPR.out _ (List.getElem_mem hj))
   have HNX:=Lib.hid (show P.take (j+1)=P.take j++[P[j]]from List.take_succ_eq_append_getElem hj)
   have HNO:=Lib.hid (show entryF P[j]=none→R=none from fun h=> HXX.out.trans (allO_none (List.getElem_mem hj) h))
   have HAP:=Lib.hid (fun d (h:entryF P[j]=some d)=> show allO entryF (P.take (j+1))=some (histsOf Q++[d])from by rw [HNX.out];exact allO_snoc HA.out h)
   rw [hlen]at q1 q4
   have hsub:=HLW.out.sub (i:=1+offs P j) (k:=P[j].length) (by omega)
   rw [q3]at hsub
   have HSB:=Lib.hid hsub
   have HEND:=Lib.hid (js_end wr (some ⟨b,o,none⟩) n c L HLW.out (by omega) (1+offs P j) (by omega))
   rw [q2]at HEND
   obtain ⟨x,hx⟩:∃x,x=1+offs P j:=⟨_,rfl⟩
   obtain ⟨y,hy⟩:∃y,y=1+offs P (j+1):=⟨_,rfl⟩
   obtain ⟨k,hk⟩:∃k,k=P[j].length:=⟨_,rfl⟩
   rw [←hx]at HEND HSB q1 ⊢
   rw [←hy]at HEND q4
   rw [←hk]at HSB q6
   have hxy:y=x+k:=by omega
   have HY:=Lib.hid hy
   clear hsub q2 q3 q5 hx hy hk HA HNX HXX HPR HLW
   generalize P[j]=p at*
   clear hj
   subst hxy
   have hxn:(x:Int) < (n:Int):=by omega
   have s1:(x:Int)≤(x:Int)+(k:Int):=by omega
   have s2:(x:Int)+(k:Int)≤(n:Int):=by omega
   have s3:(x:Int)+(k:Int)≤(c:Int):=by omega
   go_wp2_with fail
   refine HEND.out.mono ?_
   rintro e w9 ⟨rfl,K9⟩
   have HX9:=Lib.hid (show OwnHists w9 w.heap.size u4 Q∧Below w.heap.size w w9 from ⟨HX.out.1.below K9.out,HX.out.2.trans (K9.out.mono HX.out.2.size)⟩)
   have HSB9:=Lib.hid (HSB.out.below K9.out)
   clear HX K9 HEND HSB
   have HEN:=Lib.hid (cf_readEntry w9 (some ⟨b,o+x*4,none⟩) k (c - x) p HSB9.out (by omega) HSP.out (HT.out w9 HX9.out.2) HPRJ.out)
   clear HPRJ HSP HSB9
   generalize entryF p=E0 at*
   go_wp2_with fail
   refine HEN.out.mono ?_
   intro e w11 hp11
   clear HEN
   cases E0 with
   | none=>
    obtain ⟨rfl,K11⟩:=hp11
    have HRX:=Lib.hid (HNO.out rfl)
    have B11:=Lib.hid (HX9.out.2.trans (K11.out.mono HX9.out.2.size))
    clear HNO HAP HX9 K11
    go_upto_region 10 with ((with_reducible refine store_all ?_ 42 (.tmp 7) (.tmp 30) ?_ w11.heap.size hz ?_ ?_ hz ?_ ?_ ?_ ?_ ?_);rfl;rfl;go_must (rfl;rfl;rfl;exact Row.at_ _ _ _ rfl rfl;exact cf_sizeH;exact hz_one;intro w12 R12 K12 S12))
    have B12:=Lib.hid (B11.out.trans (show Below w.heap.size w11 w12 from ((kept_stored K12.out).below (Nat.le_refl _) (fun _ _ h=> h)).mono B11.out.size))
    clear B11 R12 K12 S12
    go_wp2_with fail
    go_ret2
    rw [HRX.out]
    exact ⟨_,[],rfl,Lib.hid rfl,Lib.hid ⟨OwnHists.nil _ _,B12.out⟩⟩
   | some h=>
    obtain ⟨pe,hpe,rfl,K11⟩:=hp11
    have HA2:=Lib.hid (show allO entryF (P.take (j+1))=some (histsOf (Q++[pe]))from by
     rw [HAP.out h rfl,←hpe]
     unfold histsOf
     rw [List.map_append]
     rfl)
    have HLN:=Lib.hid (show (Q++[pe]).length=j+1 from by rw [List.length_append,HDL.out];rfl)
    clear HNO HAP hpe
    have HPV:=Lib.hid (show ValsAt w11 pe.rest.at_ pe.rest.row.length pe.rest.cap pe.rest.row∧∀b o,pe.rest.at_=some ⟨b,o,none⟩→w.heap.size≤b∧b < w11.heap.size∧u4.ownBlock≠some b from by
     obtain ⟨A,cc,e,hv,_,hA,_⟩:=K11.out.1.vals
     have e2:Value.slice pe.rest.at_ pe.rest.row.length pe.rest.cap= .slice A pe.rest.row.length cc:=e
     simp only [Value.slice.injEq,true_and]at e2
     obtain ⟨e3,e4⟩:=e2
     rw [e3,e4]
     refine ⟨hv,fun b o e5=> ?_⟩
     obtain ⟨g,e6,h6,h7⟩:=hA _ e5
     cases e6
     exact ⟨Nat.le_trans HX9.out.2.size h6,h7,fun e8=> by have:=(HX9.out.1.block e8).2;omega⟩)
    have HX11:=Lib.hid (show OwnHists w11 w.heap.size u4 Q∧Below w.heap.size w w11 from ⟨HX9.out.1.below K11.out.2,HX9.out.2.trans (K11.out.2.mono HX9.out.2.size)⟩)
    clear HX9 K11
    go_upto_region 10 with ((with_reducible refine store_all ?_ 42 (.tmp 7) (.tmp 30) ?_ w11.heap.size pe.enc ?_ ?_ hz ?_ ?_ ?_ ?_ ?_);rfl;rfl;go_must (rfl;rfl;rfl;exact Row.at_ _ _ _ rfl rfl;exact cf_sizeH;exact hist_one _ _ _ _ _;intro w12 R12 K12 S12))
    have KB12:=Lib.hid (show Below w11.heap.size w11 w12 from (kept_stored K12.out).below (Nat.le_refl _) (fun _ _ h=> h))
    have HX12:=Lib.hid (show OwnHists w12 w.heap.size u4 Q∧Below w.heap.size w w12 from ⟨HX11.out.1.below KB12.out,HX11.out.2.trans (KB12.out.mono HX11.out.2.size)⟩)
    have HPW:=Lib.hid (show ValsAt (w12.alloc (.cells #[.string (sb pe.who), .bool pe.empty,pe.rest.enc] 42)) pe.rest.at_ pe.rest.row.length pe.rest.cap pe.rest.row∧∀b o,pe.rest.at_=some ⟨b,o,none⟩→w.heap.size≤b∧b < (w12.alloc (.cells #[.string (sb pe.who), .bool pe.empty,pe.rest.enc] 42)).heap.size∧u4.ownBlock≠some b from
     ⟨(HPV.out.1.below KB12.out).below (below_alloc w12 _),fun b o e=> ⟨(HPV.out.2 b o e).1,Nat.lt_of_lt_of_le (HPV.out.2 b o e).2.1 (Nat.le_trans KB12.out.size (below_alloc w12 _).size),(HPV.out.2 b o e).2.2⟩⟩)
    have HSZ:=Lib.hid (show w.heap.size≤(w12.alloc (.cells #[.string (sb pe.who), .bool pe.empty,pe.rest.enc] 42)).heap.size from Nat.le_trans HX12.out.2.size (below_alloc w12 _).size)
    have HRA:=Lib.hid (show (w12.alloc (.cells #[.string (sb pe.who), .bool pe.empty,pe.rest.enc] 42)).rangeAt w12.heap.size 0 pe.enc from rangeAt_row (Row.new w12 42 pe.enc))
    clear HX11 K12 S12 KB12 HPV
    generalize w11.heap.size=q2 at*
    go_upto_region 13 with (first
     | ((with_reducible refine load_all ?_ 42 (.tmp 7) ?_ q2 0 pe.enc #[.string (sb pe.who), .bool pe.empty,pe.rest.enc] ?_ _ ?_ Tryz.underlying42 ?_ ?_ ?_ ?_);rfl;rfl;go_must (rfl;exact rangeAt_row R12.out;rfl;exact cf_sizeH;rfl))
     | (with_reducible refine build_hist1 rfl _ rfl (.string (sb pe.who)) (.bool pe.empty) pe.rest.enc rfl ?_)
     | (at_builtin;go_must ((with_reducible refine append_hists rfl _ _ rfl w.heap.size u4 Q rfl (HX12.out.1.below (below_alloc _ _)) w12.heap.size pe rfl HRA.out HPW.out.1 HPW.out.2 (by rw [HDL.out];omega) HSZ.out ?_);intro v14 w14 h1 h2)))
    have HX14:=Lib.hid (show OwnHists w14 w.heap.size v14 (Q++[pe])∧Below w.heap.size w w14 from ⟨h1.out,(HX12.out.2.trans ((below_alloc w12 _).mono HX12.out.2.size)).trans (below_of_kept h2.out HSZ.out (fun i hi e=> by have:=e.1;omega))⟩)
    clear HX12 h1 h2 R12 HPW HRA
    go_wp2_with fail
    go_roundg g
    case measure=> omega
    case rel=> exact ⟨j+1,Q++[pe],by rw [←HY.out];go_num,by omega,HA2,HLN,HX14⟩
end Go.Proofs.YtgmangikcfakgaaGreatDoor
