import Derived.Test.YtgmangikcfakgaaGreatDoorPL38
import Derived.Test.YtgmangikcfakgaaGreatDoorPL25
namespace Go.Proofs.YtgmangikcfakgaaGreatDoor
open Go.RowKit Sh Jt Js Jo
set_option maxRecDepth 100000
set_option maxHeartbeats 4000000 in
theorem cf_readBy (w:World) (A:Option Addr) (n c:Nat) (L:List V) (hL:ValsAt w A n c L) (hn:n≤250000) (hs:Short 1000000000 L) (hT:TabOk w):
  Calls Tryz.prog 97 #[.slice A n c] w fun e w'=> e= .returned (.tuple #[.string (sb ((byO L).getD [])), .bool (byO L).isSome])∧Hid (Below w.heap.size w w'):=by
 have HG:=Lib.hid (jo_get w A n c L hL hn hs hT 0 byK)
 change Hid (Calls _ _ #[_,_, .string ⟨#[99,114,101,97,116,101,100,95,98,121]⟩] _ _)at HG
 have hlen:=hL.len
 cases hg:getA L 0 byK with
 | none=>
  rw [hg]at HG
  have HM:=Lib.hid (by_none hg)
  change Hid (Calls _ _ _ _ fun e w'=> e= .returned (.int .i64 (-1))∧_)at HG
  clear hL hs hT hg
  generalize byO L=R at*
  go_enter Tryz.func97,Tryz.ntmps97
  go_wp2_with fail
  refine HG.out.mono ?_
  rintro e w2 ⟨rfl,HB⟩
  clear HG
  go_wp2_with fail
  go_ret2
  rw [HM.out]
  exact ⟨rfl,HB⟩
 | some p=>
  rw [hg]at HG
  obtain ⟨hp,_,_⟩:=get_head hg
  have HM:=Lib.hid (by_at hg (hp:=hp))
  have HVA:=Lib.hid (fun W (q:Below w.heap.size w W)=> hL.below q)
  obtain ⟨b,o,rfl,hbl,_⟩:=hL.at_ (by omega)
  have HC:=Lib.hid (fun W (q:Below w.heap.size w W)=> (hL.below q).cells hp)
  change Hid (Calls _ _ _ _ fun e w'=> e= .returned (.int .i64 (p:Int))∧_)at HG
  have hp9:(p:Int) < (n:Int):=by omega
  have hp0:(0:Int)≤(p:Int):=by omega
  have hq:((p:Int)== -1)=false:=beq_eq_false_iff_ne.2 (by omega)
  clear hL hs hT hg HVA
  generalize byO L=R at*
  generalize L[p]=v at*
  go_enter Tryz.func97,Tryz.ntmps97
  go_wp2_with fail
  refine HG.out.mono ?_
  rintro e w2 ⟨rfl,HB⟩
  obtain ⟨x0,_,x2,_⟩:=HC.out w2 HB.out
  clear HG HC
  by_cases he:v.kind=4
  ·have HM2:=Lib.hid (HM.out.trans (if_pos he))
   rw [he]at x0
   clear HM he
   go_wp2_with fail
   go_ret2
   rw [HM2.out]
   exact ⟨rfl,HB⟩
  ·have HM2:=Lib.hid (HM.out.trans (if_neg he))
   have hne:(v.kind !=4)=true:=by rw [bne_iff_ne];exact he
   clear HM he
   generalize v.kind=vk at*
   generalize sb v.text=vt at*
   go_wp2_with fail
   go_ret2
   rw [HM2.out]
   exact ⟨rfl,HB⟩
set_option maxHeartbeats 4000000 in
theorem cf_readEmpty (w:World) (A:Option Addr) (n c:Nat) (L:List V) (hL:ValsAt w A n c L) (hn:n≤250000) (hs:Short 1000000000 L) (hT:TabOk w):
  Calls Tryz.prog 98 #[.slice A n c] w fun e w'=> e= .returned (.tuple #[.bool ((emO L).getD false), .bool (emO L).isSome])∧Hid (Below w.heap.size w w'):=by
 have HG:=Lib.hid (jo_get w A n c L hL hn hs hT 0 emptyK)
 change Hid (Calls _ _ #[_,_, .string ⟨#[101,109,112,116,121,95,108,97,121,101,114]⟩] _ _)at HG
 have hlen:=hL.len
 cases hg:getA L 0 emptyK with
 | none=>
  rw [hg]at HG
  have HM:=Lib.hid (em_none hg)
  change Hid (Calls _ _ _ _ fun e w'=> e= .returned (.int .i64 (-1))∧_)at HG
  clear hL hs hT hg
  generalize emO L=R at*
  go_enter Tryz.func98,Tryz.ntmps98
  go_wp2_with fail
  refine HG.out.mono ?_
  rintro e w2 ⟨rfl,HB⟩
  clear HG
  go_wp2_with fail
  go_ret2
  rw [HM.out]
  exact ⟨rfl,HB⟩
 | some p=>
  rw [hg]at HG
  obtain ⟨hp,_,_⟩:=get_head hg
  have HM:=Lib.hid (em_at hg (hp:=hp))
  have HVA:=Lib.hid (fun W (q:Below w.heap.size w W)=> hL.below q)
  obtain ⟨b,o,rfl,hbl,_⟩:=hL.at_ (by omega)
  have HC:=Lib.hid (fun W (q:Below w.heap.size w W)=> (hL.below q).cells hp)
  change Hid (Calls _ _ _ _ fun e w'=> e= .returned (.int .i64 (p:Int))∧_)at HG
  have hp9:(p:Int) < (n:Int):=by omega
  have hp0:(0:Int)≤(p:Int):=by omega
  have hq:((p:Int)== -1)=false:=beq_eq_false_iff_ne.2 (by omega)
  clear hL hs hT hg HVA
  generalize emO L=R at*
  generalize L[p]=v at*
  go_enter Tryz.func98,Tryz.ntmps98
  go_wp2_with fail
  refine HG.out.mono ?_
  rintro e w2 ⟨rfl,HB⟩
  obtain ⟨x0,_,_,_⟩:=HC.out w2 HB.out
  clear HG HC
  by_cases h1:v.kind=1
  ·have HM2:=Lib.hid (HM.out.trans (if_pos h1))
   rw [h1]at x0
   clear HM h1
   go_upto_region 5 with fail
   go_quiet (fail)
   go_wp2_with fail
   go_ret2
   rw [HM2.out]
   exact ⟨rfl,Lib.hid (below_drewN HB.out nq)⟩
  ·have HM1:=Lib.hid (HM.out.trans (if_neg h1))
   have c1:(v.kind==1)=false:=beq_eq_false_iff_ne.2 h1
   by_cases h2:v.kind=2
   ·have HM2:=Lib.hid (HM1.out.trans (if_pos h2))
    rw [h2]at x0 c1
    clear HM HM1 h1 h2
    go_upto_region 5 with fail
    go_quiet (fail)
    go_wp2_with fail
    go_ret2
    rw [HM2.out]
    exact ⟨rfl,Lib.hid (below_drewN HB.out nq)⟩
   ·have HM2:=Lib.hid (HM1.out.trans (if_neg h2))
    have c2:(v.kind==2)=false:=beq_eq_false_iff_ne.2 h2
    clear HM HM1 h1 h2
    generalize v.kind=vk at*
    go_upto_region 5 with fail
    go_quiet (fail)
    go_wp2_with fail
    go_ret2
    rw [HM2.out]
    exact ⟨rfl,Lib.hid (below_drewN HB.out nq)⟩
set_option maxHeartbeats 16000000 in
theorem cf_readEntry (w:World) (A:Option Addr) (n c:Nat) (L:List V) (hL:ValsAt w A n c L) (hn:n≤250000) (hs:Short 1000000000 L) (hT:TabOk w) (hr:rightPF L=true):
  Calls Tryz.prog 62 #[.slice A n c] w (EntryPost w (entryF L)):=by
 have HBY:=Lib.hid (fun W (q:Below w.heap.size w W)=> cf_readBy W A n c L (hL.below q) hn hs (hT.below q))
 have HEM:=Lib.hid (fun W (q:Below w.heap.size w W)=> cf_readEmpty W A n c L (hL.below q) hn hs (hT.below q))
 have HWO:=Lib.hid (fun W (q:Below w.heap.size w W)=> own_any (L:=sortA (dropA (dropA L byK) emptyK)) rfl (cf_without W A n c L (hL.below q) hn hs (hT.below q) byK emptyK))
 change Hid (∀W,_→Calls _ _ #[_, .string ⟨#[99,114,101,97,116,101,100,95,98,121]⟩, .string ⟨#[101,109,112,116,121,95,108,97,121,101,114]⟩] _ _)at HWO
 have HVC:=Lib.hid (fun W (q:Below w.heap.size w W)=> hL.below q)
 have hlen:=hL.len
 have hpos:=right_pos hr
 have hk0:kindOf L=L[0].kind:=by
  match L,hpos with
  | v::r,_=> rfl
 obtain ⟨b,o,rfl,hbl,_⟩:=hL.at_ (by omega)
 have h00:(0:Int) < (n:Int):=by omega
 have HC0:=Lib.hid (fun W (q:Below w.heap.size w W)=> show W.cell? ⟨b,o,none⟩=some (.int .i64 L[0].kind)from by
  have:=((HVC.out W q).cells hpos).1
  rwa [Nat.zero_mul,Nat.add_zero]at this)
 obtain ⟨R,hR⟩:∃R,R=entryF L:=⟨_,rfl⟩
 rw [←hR]
 have HTW:=Lib.hid (show ∀(a:Option (List UInt8)) (m:Option Bool),byO L=a→emO L=m→R=entryO L a m from fun a m ha hb=> hR.trans (entry_two hr ha hb))
 have HSO:=Lib.hid (fun (h6:L[0].kind=6)=> show sortA (dropA (dropA L byK) emptyK)=srt (dropA (dropA L byK) emptyK)from by
  have hO:isO L=true:=by unfold isO;rw [hr,hk0,h6];rfl
  obtain ⟨P,hP⟩:=obj_is hO
  exact sort_yes (ObjIs.but (ObjIs.but hP byK) emptyK).right)
 have HK0:=Lib.hid hk0
 clear hL hs hT hr hR HVC hk0
 go_enter Tryz.func62,Tryz.ntmps62
 go_upto_region 1 with fail
 have P0:Hid (RhAt w (w.alloc (Obj.cells hz.toArray 42))):=Lib.hid (RhAt.new w rfl)
 generalize hW0:w.alloc (Obj.cells hz.toArray 42)=w0 at P0
 generalize hW:World.alloc _ _=W'
 obtain rfl:w0=W':=hW0.symm.trans hW
 clear hW hW0
 go_wp2_with fail
 refine (HBY.out w0 P0.out.below).mono ?_
 rintro e w1 ⟨rfl,K1⟩
 have P1:=Lib.hid (P0.out.next K1.out)
 clear P0 K1 HBY
 go_wp2_with fail
 refine (HEM.out w1 P1.out.below).mono ?_
 rintro e w2 ⟨rfl,K2⟩
 have P2:=Lib.hid (P1.out.next K2.out)
 clear P1 K2 HEM
 cases ha:byO L with
 | none=>
  have HX:=Lib.hid (show R=none from by
   rw [HTW.out _ _ ha rfl]
   exact entryO_left _ _)
  simp only [Option.getD_none,Option.isSome_none]
  generalize (emO L).getD false=em
  generalize (emO L).isSome=eo
  clear HTW HSO HWO ha HC0 HK0
  go_wp2_with (first
   | ((with_reducible refine build_all ?_ 42 #[] ?_ hz.toArray ?_ ?_);rfl;rfl;go_must (refine Eq.trans ?_ built_histZ;kernel_rfl))
   | ((with_reducible refine store_all ?_ 42 (.tmp 2) (.tmp 31) ?_ w.heap.size hz ?_ ?_ hz ?_ ?_ ?_ ?_ ?_);rfl;rfl;go_must (rfl;rfl;rfl;exact P2.out.res;exact cf_sizeH;exact hz_one;intro w9 R9 K9 E9)))
  refine bodyPost_ret (v:= .tuple #[.agg hz.toArray, .bool false]) (results_row_tmp (fn:=Tryz.f62) (p:=2) (u:=3) rfl _ _ w.heap.size _ hz.toArray _ _ rfl R9.out Tryz.underlying42 rfl cf_sizeH) rfl ?_
  rw [HX.out]
  exact ⟨rfl,Lib.hid (own_rowH P2.out.below K9.out)⟩
 | some bx=>
  simp only [Option.getD_some,Option.isSome_some]
  cases hb:emO L with
  | none=>
   have HX:=Lib.hid (show R=none from by rw [HTW.out _ _ ha hb];rfl)
   simp only [Option.getD_none,Option.isSome_none]
   clear HTW HSO HWO ha hb HC0 HK0
   go_wp2_with (first
    | ((with_reducible refine build_all ?_ 42 #[] ?_ hz.toArray ?_ ?_);rfl;rfl;go_must (refine Eq.trans ?_ built_histZ;kernel_rfl))
    | ((with_reducible refine store_all ?_ 42 (.tmp 2) (.tmp 31) ?_ w.heap.size hz ?_ ?_ hz ?_ ?_ ?_ ?_ ?_);rfl;rfl;go_must (rfl;rfl;rfl;exact P2.out.res;exact cf_sizeH;exact hz_one;intro w9 R9 K9 E9)))
   refine bodyPost_ret (v:= .tuple #[.agg hz.toArray, .bool false]) (results_row_tmp (fn:=Tryz.f62) (p:=2) (u:=3) rfl _ _ w.heap.size _ hz.toArray _ _ rfl R9.out Tryz.underlying42 rfl cf_sizeH) rfl ?_
   rw [HX.out]
   exact ⟨rfl,Lib.hid (own_rowH P2.out.below K9.out)⟩
  | some mx=>
   simp only [Option.getD_some,Option.isSome_some]
   have x0:=HC0.out w2 P2.out.below
   by_cases h6:L[0].kind=6
   case neg=>
    have HX:=Lib.hid (show R=none from by rw [HTW.out _ _ ha hb];exact entryO_not (by rw [HK0.out];exact h6) _ _)
    have cb:(L[0].kind !=6)=true:=bne_iff_ne.2 h6
    clear HTW HSO HWO ha hb HC0 HK0 h6
    generalize L[0].kind=y0 at*
    go_wp2_with (first
     | ((with_reducible refine build_all ?_ 42 #[] ?_ hz.toArray ?_ ?_);rfl;rfl;go_must (refine Eq.trans ?_ built_histZ;kernel_rfl))
     | ((with_reducible refine store_all ?_ 42 (.tmp 2) (.tmp 31) ?_ w.heap.size hz ?_ ?_ hz ?_ ?_ ?_ ?_ ?_);rfl;rfl;go_must (rfl;rfl;rfl;exact P2.out.res;exact cf_sizeH;exact hz_one;intro w9 R9 K9 E9)))
    refine bodyPost_ret (v:= .tuple #[.agg hz.toArray, .bool false]) (results_row_tmp (fn:=Tryz.f62) (p:=2) (u:=3) rfl _ _ w.heap.size _ hz.toArray _ _ rfl R9.out Tryz.underlying42 rfl cf_sizeH) rfl ?_
    rw [HX.out]
    exact ⟨rfl,Lib.hid (own_rowH P2.out.below K9.out)⟩
   have HX:=Lib.hid (show R=some ⟨bx,mx,srt (dropA (dropA L byK) emptyK)⟩from by rw [HTW.out _ _ ha hb];exact if_pos (by rw [HK0.out];exact h6))
   rw [h6]at x0
   have HS6:=Lib.hid (HSO.out h6)
   clear HTW HSO ha hb HC0 HK0 h6
   generalize dropA (dropA L byK) emptyK=X2 at*
   go_wp2_with fail
   refine (HWO.out w2 P2.out.below).mono ?_
   rintro e w12 ⟨A12,c12,rfl,K12⟩
   have P12:=Lib.hid (P2.out.next K12.out.2.2)
   have hq2:w.heap.size < w2.heap.size:=P2.out.res.lt
   have HR12:=Lib.hid K12.out.1
   clear P2 K12 HWO x0
   generalize hsx:(sortA X2).length=sx at*
   have HSX:=Lib.hid hsx
   clear hsx
   go_wp2_with (first
    | ((with_reducible refine build_all ?_ 42 #[(0, .tmp 32),(1, .tmp 33),(2, .tmp 35)] ?_ #[.string (sb bx), .bool mx, .slice A12 sx c12] ?_ ?_);rfl;rfl;go_must (refine Eq.trans ?_ (built_hist bx mx A12 sx c12);kernel_rfl))
    | ((with_reducible refine store_all ?_ 42 (.tmp 2) (.tmp 36) ?_ w.heap.size [.string (sb bx), .bool mx, .slice A12 sx c12] ?_ ?_ hz ?_ ?_ ?_ ?_ ?_);rfl;rfl;go_must (rfl;rfl;rfl;exact P12.out.res;exact cf_sizeH;exact hist_one _ _ _ _ _;intro wz Rz Kz Ez)))
   refine bodyPost_ret (v:= .tuple #[.agg #[.string (sb bx), .bool mx, .slice A12 sx c12], .bool true]) (results_row_tmp (fn:=Tryz.f62) (p:=2) (u:=3) rfl _ _ w.heap.size _ #[.string (sb bx), .bool mx, .slice A12 sx c12] _ _ rfl Rz.out Tryz.underlying42 rfl cf_sizeH) rfl ?_
   rw [HX.out]
   refine ⟨⟨bx,mx,⟨A12,c12,sortA X2⟩⟩, ?_, ?_,Lib.hid ⟨?_,own_rowH P12.out.below Kz.out⟩⟩
   ·show Hist.mk _ _ _=Hist.mk _ _ _
    rw [HS6.out]
   ·show _=Ending.returned (.tuple #[.agg #[.string (sb bx), .bool mx, .slice A12 (sortA X2).length c12], .bool true])
    rw [HSX.out]
   ·show OwnVals wz w.heap.size (.slice A12 (sortA X2).length c12) (sortA X2)
    rw [HSX.out]
    exact (HR12.out.kept Kz.out (fun b e eb=> by have:=(HR12.out.block e).1;omega)).mono (by omega)
end Go.Proofs.YtgmangikcfakgaaGreatDoor
