import Derived.Test.YtgmangikcfakgaaGreatDoorPA37
set_option maxRecDepth 100000
set_option maxHeartbeats 40000000
namespace Go.Proofs.YtgmangikcfakgaaGreatDoor
open Go.RowKit Sh Jt Js Jo
theorem qvk (w:World) (A:Option Addr) (n c:Nat) (L:List V) (hL:ValsAt w A n c L) (hn:n≤250000) (hs:Short 1000000000 L) (hT:TabOk w):
  Calls Tryz.prog 97 #[.slice A n c] w fun e w'=> e= .returned (.tuple #[.string (sb ((byO L).getD [])), .bool (byO L).isSome])∧Hid (Below w.heap.size w w'):=by
 have HG:=Qh (qcz w A n c L hL hn hs hT 0 byK)
 change Hid (Calls _ _ #[_,_, .string ⟨#[99,114,101,97,116,101,100,95,98,121]⟩] _ _)at HG
 have hlen:=hL.len
 cases hg:getA L 0 byK with
 | none=>
  rw [hg]at HG
  have HM:=Qh (q2e hg)
  change Hid (Calls _ _ _ _ fun e w'=> e= .returned (.int .i64 (-1))∧_)at HG
  clear hL hs hT hg;generalize byO L=R at*;go_enter Tryz.func97,Tryz.ntmps97
  go_wp2_with fail;refine HG.out.mono ?_
  rintro e w2 ⟨rfl,HB⟩;clear HG;go_wp2_with fail;go_ret2;rw [HM.out];exact ⟨rfl,HB⟩
 | some p=>
  rw [hg]at HG
  obtain ⟨hp,_,_⟩:=qbb hg
  have HM:=Qh (by_at hg (hp:=hp))
  have HVA:=Qh (fun W (q:Below w.heap.size w W)=> hL.below q)
  obtain ⟨b,o,rfl,hbl,_⟩:=hL.at_ (by omega)
  have HC:=Qh (fun W (q:Below w.heap.size w W)=> (hL.below q).cells hp)
  change Hid (Calls _ _ _ _ fun e w'=> e= .returned (.int .i64 (p:Int))∧_)at HG
  have hp9:(p:Int) < (n:Int):=by omega
  have hp0:(0:Int)≤(p:Int):=by omega
  have hq:((p:Int)== -1)=false:=beq_eq_false_iff_ne.2 (by omega)
  clear hL hs hT hg HVA;generalize byO L=R at*;generalize L[p]=v at*;go_enter Tryz.func97,Tryz.ntmps97
  go_wp2_with fail;refine HG.out.mono ?_
  rintro e w2 ⟨rfl,HB⟩;obtain ⟨x0,_,x2,_⟩:=HC.out w2 HB.out
  clear HG HC;by_cases he:v.kind=4
  ·have HM2:=Qh (HM.out.trans (if_pos he))
   rw [he]at x0
   clear HM he;go_wp2_with fail;go_ret2;rw [HM2.out];exact ⟨rfl,HB⟩
  ·have HM2:=Qh (HM.out.trans (if_neg he))
   have hne:(v.kind !=4)=true:=by rw [bne_iff_ne];exact he
   clear HM he;generalize v.kind=vk at*;generalize sb v.text=vt at*;go_wp2_with fail;go_ret2;rw [HM2.out];exact ⟨rfl,HB⟩
theorem qob (w:World) (A:Option Addr) (n c:Nat) (L:List V) (hL:ValsAt w A n c L) (hn:n≤250000) (hs:Short 1000000000 L) (hT:TabOk w):
  Calls Tryz.prog 98 #[.slice A n c] w fun e w'=> e= .returned (.tuple #[.bool ((emO L).getD false), .bool (emO L).isSome])∧Hid (Below w.heap.size w w'):=by
 have HG:=Qh (qcz w A n c L hL hn hs hT 0 emptyK)
 change Hid (Calls _ _ #[_,_, .string ⟨#[101,109,112,116,121,95,108,97,121,101,114]⟩] _ _)at HG
 have hlen:=hL.len
 cases hg:getA L 0 emptyK with
 | none=>
  rw [hg]at HG
  have HM:=Qh (q2q hg)
  change Hid (Calls _ _ _ _ fun e w'=> e= .returned (.int .i64 (-1))∧_)at HG
  clear hL hs hT hg;generalize emO L=R at*;go_enter Tryz.func98,Tryz.ntmps98
  go_wp2_with fail;refine HG.out.mono ?_
  rintro e w2 ⟨rfl,HB⟩;clear HG;go_wp2_with fail;go_ret2;rw [HM.out];exact ⟨rfl,HB⟩
 | some p=>
  rw [hg]at HG
  obtain ⟨hp,_,_⟩:=qbb hg
  have HM:=Qh (em_at hg (hp:=hp))
  have HVA:=Qh (fun W (q:Below w.heap.size w W)=> hL.below q)
  obtain ⟨b,o,rfl,hbl,_⟩:=hL.at_ (by omega)
  have HC:=Qh (fun W (q:Below w.heap.size w W)=> (hL.below q).cells hp)
  change Hid (Calls _ _ _ _ fun e w'=> e= .returned (.int .i64 (p:Int))∧_)at HG
  have hp9:(p:Int) < (n:Int):=by omega
  have hp0:(0:Int)≤(p:Int):=by omega
  have hq:((p:Int)== -1)=false:=beq_eq_false_iff_ne.2 (by omega)
  clear hL hs hT hg HVA;generalize emO L=R at*;generalize L[p]=v at*;go_enter Tryz.func98,Tryz.ntmps98
  go_wp2_with fail;refine HG.out.mono ?_
  rintro e w2 ⟨rfl,HB⟩;obtain ⟨x0,_,_,_⟩:=HC.out w2 HB.out
  clear HG HC;by_cases h1:v.kind=1
  ·have HM2:=Qh (HM.out.trans (if_pos h1))
   rw [h1]at x0
   clear HM h1;go_upto_region 5 with fail;go_quiet (fail)
   go_wp2_with fail;go_ret2;rw [HM2.out];exact ⟨rfl,Qh (qaa HB.out nq)⟩
  ·have HM1:=Qh (HM.out.trans (if_neg h1))
   have c1:(v.kind==1)=false:=beq_eq_false_iff_ne.2 h1
   by_cases h2:v.kind=2
   ·have HM2:=Qh (HM1.out.trans (if_pos h2))
    rw [h2]at x0 c1
    clear HM HM1 h1 h2;go_upto_region 5 with fail;go_quiet (fail)
    go_wp2_with fail;go_ret2;rw [HM2.out];exact ⟨rfl,Qh (qaa HB.out nq)⟩
   ·have HM2:=Qh (HM1.out.trans (if_neg h2))
    have c2:(v.kind==2)=false:=beq_eq_false_iff_ne.2 h2
    clear HM HM1 h1 h2;generalize v.kind=vk at*;go_upto_region 5 with fail;go_quiet (fail)
    go_wp2_with fail;go_ret2;rw [HM2.out];exact ⟨rfl,Qh (qaa HB.out nq)⟩
theorem qox (w:World) (A:Option Addr) (n c:Nat) (L:List V) (hL:ValsAt w A n c L) (hn:n≤250000) (hs:Short 1000000000 L) (hT:TabOk w) (hr:rightPF L=true):
  Calls Tryz.prog 62 #[.slice A n c] w (EntryPost w (entryF L)):=by
 have HBY:=Qh (fun W (q:Below w.heap.size w W)=> qvk W A n c L (hL.below q) hn hs (hT.below q))
 have HEM:=Qh (fun W (q:Below w.heap.size w W)=> qob W A n c L (hL.below q) hn hs (hT.below q))
 have HWO:=Qh (fun W (q:Below w.heap.size w W)=> qaj (L:=sortA (dropA (dropA L byK) emptyK)) rfl (qk5 W A n c L (hL.below q) hn hs (hT.below q) byK emptyK))
 change Hid (∀W,_→Calls _ _ #[_, .string ⟨#[99,114,101,97,116,101,100,95,98,121]⟩, .string ⟨#[101,109,112,116,121,95,108,97,121,101,114]⟩] _ _)at HWO
 have HVC:=Qh (fun W (q:Below w.heap.size w W)=> hL.below q)
 have hlen:=hL.len
 have hpos:=qav hr
 have hk0:kindOf L=L[0].kind:=by
  match L,hpos with
  | v::r,_=> rfl
 obtain ⟨b,o,rfl,hbl,_⟩:=hL.at_ (by omega)
 have h00:(0:Int) < (n:Int):=by omega
 have HC0:=Qh (fun W (q:Below w.heap.size w W)=> show W.cell? ⟨b,o,none⟩=some (.int .i64 L[0].kind)from by
  have:=((HVC.out W q).cells hpos).1
  rwa [Nat.zero_mul,Nat.add_zero]at this)
 obtain ⟨R,hR⟩:∃R,R=entryF L:=⟨_,rfl⟩
 rw [←hR]
 have HTW:=Qh (show ∀(a:Option (List UInt8)) (m:Option Bool),byO L=a→emO L=m→R=entryO L a m from fun a m ha hb=> hR.trans (qwe hr ha hb))
 have HSO:=Qh (fun (h6:L[0].kind=6)=> show sortA (dropA (dropA L byK) emptyK)=srt (dropA (dropA L byK) emptyK)from by
  have hO:isO L=true:=by unfold isO;rw [hr,hk0,h6];rfl
  obtain ⟨P,hP⟩:=qbn hO
  exact qd1 (ObjIs.but (ObjIs.but hP byK) emptyK).right)
 have HK0:=Qh hk0
 clear hL hs hT hr hR HVC hk0
 go_enter Tryz.func62,Tryz.ntmps62
 go_upto_region 1 with fail
 have P0:Hid (RhAt w (w.alloc (Obj.cells hz.toArray 42))):=Qh (RhAt.new w rfl)
 generalize hW0:w.alloc (Obj.cells hz.toArray 42)=w0 at P0
 generalize hW:World.alloc _ _=W'
 obtain rfl:w0=W':=hW0.symm.trans hW
 clear hW hW0
 go_wp2_with fail
 refine (HBY.out w0 P0.out.below).mono ?_
 rintro e w1 ⟨rfl,K1⟩
 have P1:=Qh (P0.out.next K1.out)
 clear P0 K1 HBY
 go_wp2_with fail
 refine (HEM.out w1 P1.out.below).mono ?_
 rintro e w2 ⟨rfl,K2⟩
 have P2:=Qh (P1.out.next K2.out)
 clear P1 K2 HEM
 cases ha:byO L with
 | none=>
  have HX:=Qh (show R=none from by
   rw [HTW.out _ _ ha rfl];exact qf3 _ _)
  simp only [Option.getD_none,Option.isSome_none]
  generalize (emO L).getD false=em;generalize (emO L).isSome=eo;clear HTW HSO HWO ha HC0 HK0;go_wp2_with (first
   | ((with_reducible refine qao ?_ 42 #[] ?_ hz.toArray ?_ ?_);rfl;rfl;go_must (refine Eq.trans ?_ qb6;kernel_rfl))
   | ((with_reducible refine qaf ?_ 42 (.tmp 2) (.tmp 31) ?_ w.heap.size hz ?_ ?_ hz ?_ ?_ ?_ ?_ ?_);rfl;rfl;go_must (rfl;rfl;rfl;exact P2.out.res;exact qai;exact qdq;intro w9 R9 K9 E9)))
  refine bodyPost_ret (v:= .tuple #[.agg hz.toArray, .bool false]) (qae (fn:=Tryz.f62) (p:=2) (u:=3) rfl _ _ w.heap.size _ hz.toArray _ _ rfl R9.out Tryz.underlying42 rfl qai) rfl ?_
  rw [HX.out];exact ⟨rfl,Qh (qap P2.out.below K9.out)⟩
 | some bx=>
  simp only [Option.getD_some,Option.isSome_some]
  cases hb:emO L with
  | none=>
   have HX:=Qh (show R=none from by rw [HTW.out _ _ ha hb];rfl)
   simp only [Option.getD_none,Option.isSome_none]
   clear HTW HSO HWO ha hb HC0 HK0;go_wp2_with (first
    | ((with_reducible refine qao ?_ 42 #[] ?_ hz.toArray ?_ ?_);rfl;rfl;go_must (refine Eq.trans ?_ qb6;kernel_rfl))
    | ((with_reducible refine qaf ?_ 42 (.tmp 2) (.tmp 31) ?_ w.heap.size hz ?_ ?_ hz ?_ ?_ ?_ ?_ ?_);rfl;rfl;go_must (rfl;rfl;rfl;exact P2.out.res;exact qai;exact qdq;intro w9 R9 K9 E9)))
   refine bodyPost_ret (v:= .tuple #[.agg hz.toArray, .bool false]) (qae (fn:=Tryz.f62) (p:=2) (u:=3) rfl _ _ w.heap.size _ hz.toArray _ _ rfl R9.out Tryz.underlying42 rfl qai) rfl ?_
   rw [HX.out];exact ⟨rfl,Qh (qap P2.out.below K9.out)⟩
  | some mx=>
   simp only [Option.getD_some,Option.isSome_some]
   have x0:=HC0.out w2 P2.out.below
   by_cases h6:L[0].kind=6
   case neg=>
    have HX:=Qh (show R=none from by rw [HTW.out _ _ ha hb];exact qk8 (by rw [HK0.out];exact h6) _ _)
    have cb:(L[0].kind !=6)=true:=bne_iff_ne.2 h6
    clear HTW HSO HWO ha hb HC0 HK0 h6;generalize L[0].kind=y0 at*;go_wp2_with (first
     | ((with_reducible refine qao ?_ 42 #[] ?_ hz.toArray ?_ ?_);rfl;rfl;go_must (refine Eq.trans ?_ qb6;kernel_rfl))
     | ((with_reducible refine qaf ?_ 42 (.tmp 2) (.tmp 31) ?_ w.heap.size hz ?_ ?_ hz ?_ ?_ ?_ ?_ ?_);rfl;rfl;go_must (rfl;rfl;rfl;exact P2.out.res;exact qai;exact qdq;intro w9 R9 K9 E9)))
    refine bodyPost_ret (v:= .tuple #[.agg hz.toArray, .bool false]) (qae (fn:=Tryz.f62) (p:=2) (u:=3) rfl _ _ w.heap.size _ hz.toArray _ _ rfl R9.out Tryz.underlying42 rfl qai) rfl ?_
    rw [HX.out];exact ⟨rfl,Qh (qap P2.out.below K9.out)⟩
   have HX:=Qh (show R=some ⟨bx,mx,srt (dropA (dropA L byK) emptyK)⟩from by rw [HTW.out _ _ ha hb];exact if_pos (by rw [HK0.out];exact h6))
   rw [h6]at x0
   have HS6:=Qh (HSO.out h6)
   clear HTW HSO ha hb HC0 HK0 h6;generalize dropA (dropA L byK) emptyK=X2 at*;go_wp2_with fail;refine (HWO.out w2 P2.out.below).mono ?_
   rintro e w12 ⟨A12,c12,rfl,K12⟩;have P12:=Qh (P2.out.next K12.out.2.2)
   have hq2:w.heap.size < w2.heap.size:=P2.out.res.lt
   have HR12:=Qh K12.out.1
   clear P2 K12 HWO x0;generalize hsx:(sortA X2).length=sx at*;have HSX:=Qh hsx
   clear hsx;go_wp2_with (first
    | ((with_reducible refine qao ?_ 42 #[(0, .tmp 32),(1, .tmp 33),(2, .tmp 35)] ?_ #[.string (sb bx), .bool mx, .slice A12 sx c12] ?_ ?_);rfl;rfl;go_must (refine Eq.trans ?_ (qtb bx mx A12 sx c12);kernel_rfl))
    | ((with_reducible refine qaf ?_ 42 (.tmp 2) (.tmp 36) ?_ w.heap.size [.string (sb bx), .bool mx, .slice A12 sx c12] ?_ ?_ hz ?_ ?_ ?_ ?_ ?_);rfl;rfl;go_must (rfl;rfl;rfl;exact P12.out.res;exact qai;exact qbq _ _ _ _ _;intro wz Rz Kz Ez)))
   refine bodyPost_ret (v:= .tuple #[.agg #[.string (sb bx), .bool mx, .slice A12 sx c12], .bool true]) (qae (fn:=Tryz.f62) (p:=2) (u:=3) rfl _ _ w.heap.size _ #[.string (sb bx), .bool mx, .slice A12 sx c12] _ _ rfl Rz.out Tryz.underlying42 rfl qai) rfl ?_
   rw [HX.out];refine ⟨⟨bx,mx,⟨A12,c12,sortA X2⟩⟩, ?_, ?_,Qh ⟨?_,qap P12.out.below Kz.out⟩⟩
   ·show Hist.mk _ _ _=Hist.mk _ _ _
    rw [HS6.out]
   ·show _=Ending.returned (.tuple #[.agg #[.string (sb bx), .bool mx, .slice A12 (sortA X2).length c12], .bool true])
    rw [HSX.out]
   ·show OwnVals wz w.heap.size (.slice A12 (sortA X2).length c12) (sortA X2)
    rw [HSX.out];exact (HR12.out.kept Kz.out (fun b e eb=> by have:=(HR12.out.block e).1;omega)).mono (by omega)
namespace Jo
theorem LstIs.atC {L:List V} {P:List (List V)} (h:LstIs L P) {j:Nat} (hj:j < P.length):1+offs P j < L.length∧endN L (1+offs P j)=((1+offs P (j+1):Nat):Int)∧(L.drop (1+offs P j)).take P[j].length=P[j]∧1+offs P (j+1)≤L.length∧offs P (j+1)=offs P j+P[j].length∧0 < P[j].length:=by
 obtain ⟨v,_,e⟩:=h.eq
 have hd:L.drop 1=P.flatten++[]:=by rw [e,List.append_nil];rfl
 obtain ⟨y,hy⟩:=qia P L [] 1 hd j hj
 have he:=h.ends _ (List.getElem_mem hj)
 obtain ⟨_,_,r3⟩:=qfc hy he
 have h0:=h.ends.pos (List.getElem_mem hj)
 have hs:=qmk hj
 have hlen:=congrArg List.length hy
 rw [List.length_drop,List.length_append]at hlen
 have hlt:1+offs P j < L.length:=by omega
 refine ⟨hlt, ?_,by rw [hy,List.take_left],by omega,hs,h0⟩
 unfold endN
 rw [if_pos hlt,r3,hs]
 show ((1+offs P j:Nat):Int)+(P[j].length:Nat)=_
 omega
end Jo
theorem qly (w:World) (A:Option Addr) (n c:Nat) (L:List V) (hL:ValsAt w A n c L) (hn:n≤5000) (hs:Short 1000000000 L) (hT:TabOk w) (hr:L=[]∨rightPF L=true):
  Calls Tryz.prog 29 #[.slice A n c] w (HistPost w (if L=[] then some [] else listO entryF L)):=by
 have hlen:=hL.len
 have B0:=Qh (Below.refl w.heap.size w)
 obtain ⟨R,hR⟩:∃R,R=if L=[] then some [] else listO entryF L:=⟨_,rfl⟩
 rw [←hR]
 rcases hr with rfl | hr
 ·obtain rfl:n=0:=hlen.symm
  have HX:Hid (R=some []):=Qh (hR.trans (if_pos rfl))
  clear hL hs hT hR;go_enter Tryz.func29,Tryz.ntmps29
  go_wp2_with fail;go_ret2;rw [HX.out];exact ⟨_,[],rfl,Qh rfl,Qh ⟨OwnHists.nil _ _,B0.out⟩⟩
 have hpos:=qav hr
 obtain ⟨v,r,rfl⟩:∃v r,L=v::r:=by
  match L,hpos with
  | v::r,_=> exact ⟨v,r,rfl⟩
 rw [if_neg (fun h=> by cases h)]at hR
 have h00:(0:Int) < (n:Int):=by omega
 have hnb:((n:Int)==0)=false:=beq_eq_false_iff_ne.2 (by omega)
 obtain ⟨b,o,rfl,hb,_⟩:=hL.at_ (by omega)
 have x0:w.cell? ⟨b,o,none⟩=some (.int .i64 v.kind):=hL.head.1
 by_cases h5:v.kind=5
 case neg=>
  have HX:Hid (R=none):=Qh (hR.trans (if_neg h5))
  have hz5:(v.kind !=5)=true:=bne_iff_ne.2 h5
  generalize v.kind=vk at*;clear hL hs hT hR hr h5;go_enter Tryz.func29,Tryz.ntmps29
  go_wp2_with fail;go_ret2;rw [HX.out];exact ⟨_,[],rfl,Qh rfl,Qh ⟨OwnHists.nil _ _,B0.out⟩⟩
 obtain ⟨P,hP⟩:=qwp hr h5
 have HPR:Hid (∀p∈P,rightPF p=true):=Qh (by
  have:=qf2 hr h5
  rw [hP.parts]at this
  exact this)
 have HXX:Hid (R=allO entryF P):=Qh (by
  rw [hR];unfold listO;rw [hP.parts];exact if_pos h5)
 rw [h5]at x0
 have HP:=Qh hP
 have HS:=Qh hs
 have HT:=Qh (fun W (q:Below w.heap.size w W)=> hT.below q)
 have HL:=Qh (fun W (q:Below w.heap.size w W)=> hL.below q)
 have hcap:=hL.cap
 have hall:=hP.all
 have hfew:=hP.few
 rw [hlen]at hall
 generalize v::r=L at*
 clear hP hs hT hL hr h5 hR
 go_enter Tryz.func29,Tryz.ntmps29
 go_upto_region 7 with fail
 clear x0
 go_loopg [4,5] P.length (fun g v4 v5 wx=> ∃(j:Nat) (Q:List Pe),v5= .int .i64 ((1+offs P j:Nat):Int)∧j+g=P.length∧Hid (allO entryF (P.take j)=some (histsOf Q))∧Hid (Q.length=j)∧Hid (OwnHists wx w.heap.size v4 Q∧Below w.heap.size w wx))
 case atStart=> exact ⟨0,[],rfl,by omega,Qh rfl,Qh rfl,Qh ⟨OwnHists.nil _ _,B0.out⟩⟩
 case round=>
  clear B0;obtain ⟨j,Q,rfl,hjg,HA,HDL,HX⟩:=hrel
  cases gk with
  | zero=>
   obtain rfl:j=P.length:=by omega
   rw [hall];rw [List.take_length]at HA
   have HRX:Hid (R=some (histsOf Q)):=Qh (HXX.out.trans HA.out)
   have hge:¬(n:Int) < (n:Int):=by omega
   go_wp2_with fail;go_ret2;rw [HRX.out];exact ⟨_,Q,rfl,Qh rfl,HX⟩
  | succ g=>
   have hj:j < P.length:=by omega
   obtain ⟨q1,q2,q3,q4,q5,q6⟩:=HP.out.atC hj
   have HLW:=Qh (HL.out wr HX.out.2)
   have HSP:=Qh (show Short 1000000000 P[j]from fun x hx=> HS.out x (by rw [←q3]at hx;exact List.mem_of_mem_drop (List.mem_of_mem_take hx)))
   have HPRJ:=Qh (HPR.out _ (List.getElem_mem hj))
   have HNX:=Qh (show P.take (j+1)=P.take j++[P[j]]from List.take_succ_eq_append_getElem hj)
   have HNO:=Qh (show entryF P[j]=none→R=none from fun h=> HXX.out.trans (qek (List.getElem_mem hj) h))
   have HAP:=Qh (fun d (h:entryF P[j]=some d)=> show allO entryF (P.take (j+1))=some (histsOf Q++[d])from by rw [HNX.out];exact qej HA.out h)
   rw [hlen]at q1 q4
   have hsub:=HLW.out.sub (i:=1+offs P j) (k:=P[j].length) (by omega)
   rw [q3]at hsub
   have HSB:=Qh hsub
   have HEND:=Qh (qfm wr (some ⟨b,o,none⟩) n c L HLW.out (by omega) (1+offs P j) (by omega))
   rw [q2]at HEND
   obtain ⟨x,hx⟩:∃x,x=1+offs P j:=⟨_,rfl⟩
   obtain ⟨y,hy⟩:∃y,y=1+offs P (j+1):=⟨_,rfl⟩
   obtain ⟨k,hk⟩:∃k,k=P[j].length:=⟨_,rfl⟩
   rw [←hx]at HEND HSB q1 ⊢
   rw [←hy]at HEND q4
   rw [←hk]at HSB q6
   have hxy:y=x+k:=by omega
   have HY:=Qh hy
   clear hsub q2 q3 q5 hx hy hk HA HNX HXX HPR HLW;generalize P[j]=p at*;clear hj;subst hxy;have hxn:(x:Int) < (n:Int):=by omega
   have s1:(x:Int)≤(x:Int)+(k:Int):=by omega
   have s2:(x:Int)+(k:Int)≤(n:Int):=by omega
   have s3:(x:Int)+(k:Int)≤(c:Int):=by omega
   go_wp2_with fail;refine HEND.out.mono ?_
   rintro e w9 ⟨rfl,K9⟩;have HX9:=Qh (show OwnHists w9 w.heap.size u4 Q∧Below w.heap.size w w9 from ⟨HX.out.1.below K9.out,HX.out.2.trans (K9.out.mono HX.out.2.size)⟩)
   have HSB9:=Qh (HSB.out.below K9.out)
   clear HX K9 HEND HSB;have HEN:=Qh (qox w9 (some ⟨b,o+x*4,none⟩) k (c - x) p HSB9.out (by omega) HSP.out (HT.out w9 HX9.out.2) HPRJ.out)
   clear HPRJ HSP HSB9;generalize entryF p=E0 at*;go_wp2_with fail;refine HEN.out.mono ?_
   intro e w11 hp11;clear HEN;cases E0 with
   | none=>
    obtain ⟨rfl,K11⟩:=hp11
    have HRX:=Qh (HNO.out rfl)
    have B11:=Qh (HX9.out.2.trans (K11.out.mono HX9.out.2.size))
    clear HNO HAP HX9 K11;go_upto_region 10 with ((with_reducible refine qaf ?_ 42 (.tmp 7) (.tmp 30) ?_ w11.heap.size hz ?_ ?_ hz ?_ ?_ ?_ ?_ ?_);rfl;rfl;go_must (rfl;rfl;rfl;exact Row.at_ _ _ _ rfl rfl;exact qai;exact qdq;intro w12 R12 K12 S12))
    have B12:=Qh (B11.out.trans (show Below w.heap.size w11 w12 from ((qaq K12.out).below (Nat.le_refl _) (fun _ _ h=> h)).mono B11.out.size))
    clear B11 R12 K12 S12;go_wp2_with fail;go_ret2;rw [HRX.out];exact ⟨_,[],rfl,Qh rfl,Qh ⟨OwnHists.nil _ _,B12.out⟩⟩
   | some h=>
    obtain ⟨pe,hpe,rfl,K11⟩:=hp11
    have HA2:=Qh (show allO entryF (P.take (j+1))=some (histsOf (Q++[pe]))from by
     rw [HAP.out h rfl,←hpe];unfold histsOf;rw [List.map_append];rfl)
    have HLN:=Qh (show (Q++[pe]).length=j+1 from by rw [List.length_append,HDL.out];rfl)
    clear HNO HAP hpe;have HPV:=Qh (show ValsAt w11 pe.rest.at_ pe.rest.row.length pe.rest.cap pe.rest.row∧∀b o,pe.rest.at_=some ⟨b,o,none⟩→w.heap.size≤b∧b < w11.heap.size∧u4.ownBlock≠some b from by
     obtain ⟨A,cc,e,hv,_,hA,_⟩:=K11.out.1.vals
     have e2:Value.slice pe.rest.at_ pe.rest.row.length pe.rest.cap= .slice A pe.rest.row.length cc:=e
     simp only [Value.slice.injEq,true_and]at e2
     obtain ⟨e3,e4⟩:=e2
     rw [e3,e4];refine ⟨hv,fun b o e5=> ?_⟩
     obtain ⟨g,e6,h6,h7⟩:=hA _ e5
     cases e6
     exact ⟨Nat.le_trans HX9.out.2.size h6,h7,fun e8=> by have:=(HX9.out.1.block e8).2;omega⟩)
    have HX11:=Qh (show OwnHists w11 w.heap.size u4 Q∧Below w.heap.size w w11 from ⟨HX9.out.1.below K11.out.2,HX9.out.2.trans (K11.out.2.mono HX9.out.2.size)⟩)
    clear HX9 K11;go_upto_region 10 with ((with_reducible refine qaf ?_ 42 (.tmp 7) (.tmp 30) ?_ w11.heap.size pe.enc ?_ ?_ hz ?_ ?_ ?_ ?_ ?_);rfl;rfl;go_must (rfl;rfl;rfl;exact Row.at_ _ _ _ rfl rfl;exact qai;exact qbq _ _ _ _ _;intro w12 R12 K12 S12))
    have KB12:=Qh (show Below w11.heap.size w11 w12 from (qaq K12.out).below (Nat.le_refl _) (fun _ _ h=> h))
    have HX12:=Qh (show OwnHists w12 w.heap.size u4 Q∧Below w.heap.size w w12 from ⟨HX11.out.1.below KB12.out,HX11.out.2.trans (KB12.out.mono HX11.out.2.size)⟩)
    have HPW:=Qh (show ValsAt (w12.alloc (.cells #[.string (sb pe.who), .bool pe.empty,pe.rest.enc] 42)) pe.rest.at_ pe.rest.row.length pe.rest.cap pe.rest.row∧∀b o,pe.rest.at_=some ⟨b,o,none⟩→w.heap.size≤b∧b < (w12.alloc (.cells #[.string (sb pe.who), .bool pe.empty,pe.rest.enc] 42)).heap.size∧u4.ownBlock≠some b from
     ⟨(HPV.out.1.below KB12.out).below (qac w12 _),fun b o e=> ⟨(HPV.out.2 b o e).1,Nat.lt_of_lt_of_le (HPV.out.2 b o e).2.1 (Nat.le_trans KB12.out.size (qac w12 _).size),(HPV.out.2 b o e).2.2⟩⟩)
    have HSZ:=Qh (show w.heap.size≤(w12.alloc (.cells #[.string (sb pe.who), .bool pe.empty,pe.rest.enc] 42)).heap.size from Nat.le_trans HX12.out.2.size (qac w12 _).size)
    have HRA:=Qh (show (w12.alloc (.cells #[.string (sb pe.who), .bool pe.empty,pe.rest.enc] 42)).rangeAt w12.heap.size 0 pe.enc from qan (Row.new w12 42 pe.enc))
    clear HX11 K12 S12 KB12 HPV;generalize w11.heap.size=q2 at*;go_upto_region 13 with (first
     | ((with_reducible refine qas ?_ 42 (.tmp 7) ?_ q2 0 pe.enc #[.string (sb pe.who), .bool pe.empty,pe.rest.enc] ?_ _ ?_ Tryz.underlying42 ?_ ?_ ?_ ?_);rfl;rfl;go_must (rfl;exact qan R12.out;rfl;exact qai;rfl))
     | (with_reducible refine qjb rfl _ rfl (.string (sb pe.who)) (.bool pe.empty) pe.rest.enc rfl ?_)
     | (at_builtin;go_must ((with_reducible refine qh5 rfl _ _ rfl w.heap.size u4 Q rfl (HX12.out.1.below (qac _ _)) w12.heap.size pe rfl HRA.out HPW.out.1 HPW.out.2 (by rw [HDL.out];omega) HSZ.out ?_);intro v14 w14 h1 h2)))
    have HX14:=Qh (show OwnHists w14 w.heap.size v14 (Q++[pe])∧Below w.heap.size w w14 from ⟨h1.out,(HX12.out.2.trans ((qac w12 _).mono HX12.out.2.size)).trans (qak h2.out HSZ.out (fun i hi e=> by have:=e.1;omega))⟩)
    clear HX12 h1 h2 R12 HPW HRA;go_wp2_with fail;go_roundg g
    case measure=> omega
    case rel=> exact ⟨j+1,Q++[pe],by rw [←HY.out];go_num,by omega,HA2,HLN,HX14⟩
end Go.Proofs.YtgmangikcfakgaaGreatDoor
