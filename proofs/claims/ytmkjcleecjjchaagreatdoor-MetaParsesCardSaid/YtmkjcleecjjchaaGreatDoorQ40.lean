import Derived.Test.YtmkjcleecjjchaaGreatDoorQ31
import Derived.Test.YtmkjcleecjjchaaGreatDoorQ33
import Derived.Test.YtmkjcleecjjchaaGreatDoorQ39
namespace Go.Proofs.YtmkjcleecjjchaaGreatDoor
open Go.RowKit Sh Jt Js Jo
set_option maxRecDepth 100000
theorem rd_run {s:Sem Value} {w w':World} {v:Value} (h:s.run Tryz.prog w= .ok v w'):(do let x ←s;pure (Next.value x):Sem Next).run Tryz.prog w= .ok (.value v) w':=by
 rw [Sem.run_bind,h]
 rfl
set_option maxHeartbeats 40000000 in
theorem mt_rdesc (w:World) (A:Option Addr) (n c:Nat) (L:List V) (hL:ValsAt w A n c L) (hn:n≤250000) (hs:Short 1000000000 L):
  Calls Tryz.prog 32 #[.slice A n c] w fun e w'=> e= .returned (.tuple #[.agg (dv (orD (descF L))).toArray, .bool (descF L).isSome])∧Hid (Below w.heap.size w w'):=by
 have HM1:=Lib.hid (fun W (q:Below w.heap.size w W)=> jo_rget W A n c L (hL.below q) hn hs 0 mediaK)
 have HM2:=Lib.hid (fun W (q:Below w.heap.size w W)=> jo_rget W A n c L (hL.below q) hn hs 0 digK)
 have HM3:=Lib.hid (fun W (q:Below w.heap.size w W)=> jo_rget W A n c L (hL.below q) hn hs 0 sizeK)
 have HVA:=Lib.hid (fun W (q:Below w.heap.size w W)=> hL.below q)
 have hlen:=hL.len
 have hAA:=hL.at_
 have HAA:=Lib.hid hAA
 have HSS:=Lib.hid hs
 clear hL hs hAA
 change Hid (∀W,_→Calls _ _ #[.slice A n c, .int .i64 0, .string ⟨#[109,101,100,105,97,84,121,112,101]⟩] _ _)at HM1
 change Hid (∀W,_→Calls _ _ #[.slice A n c, .int .i64 0, .string ⟨#[100,105,103,101,115,116]⟩] _ _)at HM2
 change Hid (∀W,_→Calls _ _ #[.slice A n c, .int .i64 0, .string ⟨#[115,105,122,101]⟩] _ _)at HM3
 have hX:descF L=descR L:=(desc_ref L).symm
 unfold descR at hX
 have HH1:=Lib.hid (fun p (h:getA L 0 mediaK=some p)=> (get_head h).1)
 have HH2:=Lib.hid (fun p (h:getA L 0 digK=some p)=> (get_head h).1)
 have HH3:=Lib.hid (fun p (h:getA L 0 sizeK=some p)=> (get_head h).1)
 generalize getA L 0 mediaK=G1 at*
 generalize getA L 0 digK=G2 at*
 generalize getA L 0 sizeK=G3 at*
 generalize descF L=X at*
 have HX:=Lib.hid hX
 clear hX
 go_enter Tryz.func32,Tryz.ntmps32
 go_upto_region 1 with fail
 have P0:Hid (RdAt w (w.alloc (Obj.cells (dv noD).toArray 27))):=Lib.hid (RdAt.new w rfl)
 generalize hW0:w.alloc (Obj.cells (dv noD).toArray 27)=w0 at P0
 generalize hW:World.alloc _ _=W'
 obtain rfl:w0=W':=hW0.symm.trans hW
 clear hW hW0
 go_wp2_with fail
 refine (HM1.out w0 P0.out.below).mono ?_
 rintro e w1 ⟨rfl,K1⟩
 have P1:=Lib.hid (P0.out.next K1.out)
 clear P0 K1 HM1
 go_wp2_with fail
 refine (HM2.out w1 P1.out.below).mono ?_
 rintro e w2 ⟨rfl,K2⟩
 have P2:=Lib.hid (P1.out.next K2.out)
 clear P1 K2 HM2
 go_wp2_with fail
 refine (HM3.out w2 P2.out.below).mono ?_
 rintro e w3 ⟨rfl,K3⟩
 have P3:=Lib.hid (P2.out.next K3.out)
 clear P2 K3 HM3
 have pl0:plc none= -1:=rfl
 have pls:∀q:Nat,plc (some q)=(q:Int):=fun _=> rfl
 cases G1 with
 | none=>
  have hx:X=none:=HX.out
  subst hx
  rw [pl0]
  generalize plc G2=z2
  generalize plc G3=z3
  go_wp2_with (first
   | ((with_reducible refine build_all ?_ 27 #[] ?_ (dv noD).toArray ?_ ?_);rfl;rfl;go_must (refine Eq.trans ?_ built_none;kernel_rfl))
   | ((with_reducible refine store_all ?_ 27 (.tmp 2) (.tmp 32) ?_ w.heap.size (dv noD) ?_ ?_ (dv noD) ?_ ?_ ?_ ?_ ?_);rfl;rfl;go_must (rfl;rfl;rfl;exact P3.out.res;exact dv_size noD_len;exact dv_all _;intro w9 R9 K9 E9)))
  refine bodyPost_ret (v:= .tuple #[.agg (dv noD).toArray, .bool false]) (results_row_tmp (fn:=Tryz.f32) (p:=2) (u:=3) rfl _ _ w.heap.size _ (dv noD).toArray _ _ rfl R9.out Tryz.underlying27 rfl (dv_sizeA noD_len)) rfl ⟨rfl, ?_⟩
  exact Lib.hid (own_row P3.out.below K9.out)
 | some m=>
  have hm0:¬((m:Int) < 0):=by omega
  rw [pls]
  cases G2 with
  | none=>
   have hx:X=none:=HX.out
   subst hx
   rw [pl0]
   generalize plc G3=z3
   go_wp2_with (first
    | ((with_reducible refine build_all ?_ 27 #[] ?_ (dv noD).toArray ?_ ?_);rfl;rfl;go_must (refine Eq.trans ?_ built_none;kernel_rfl))
    | ((with_reducible refine store_all ?_ 27 (.tmp 2) (.tmp 32) ?_ w.heap.size (dv noD) ?_ ?_ (dv noD) ?_ ?_ ?_ ?_ ?_);rfl;rfl;go_must (rfl;rfl;rfl;exact P3.out.res;exact dv_size noD_len;exact dv_all _;intro w9 R9 K9 E9)))
   refine bodyPost_ret (v:= .tuple #[.agg (dv noD).toArray, .bool false]) (results_row_tmp (fn:=Tryz.f32) (p:=2) (u:=3) rfl _ _ w.heap.size _ (dv noD).toArray _ _ rfl R9.out Tryz.underlying27 rfl (dv_sizeA noD_len)) rfl ⟨rfl, ?_⟩
   exact Lib.hid (own_row P3.out.below K9.out)
  | some d=>
   have hd0:¬((d:Int) < 0):=by omega
   rw [pls]
   cases G3 with
   | none=>
    have hx:X=none:=HX.out
    subst hx
    rw [pl0]
    go_wp2_with (first
     | ((with_reducible refine build_all ?_ 27 #[] ?_ (dv noD).toArray ?_ ?_);rfl;rfl;go_must (refine Eq.trans ?_ built_none;kernel_rfl))
     | ((with_reducible refine store_all ?_ 27 (.tmp 2) (.tmp 32) ?_ w.heap.size (dv noD) ?_ ?_ (dv noD) ?_ ?_ ?_ ?_ ?_);rfl;rfl;go_must (rfl;rfl;rfl;exact P3.out.res;exact dv_size noD_len;exact dv_all _;intro w9 R9 K9 E9)))
    refine bodyPost_ret (v:= .tuple #[.agg (dv noD).toArray, .bool false]) (results_row_tmp (fn:=Tryz.f32) (p:=2) (u:=3) rfl _ _ w.heap.size _ (dv noD).toArray _ _ rfl R9.out Tryz.underlying27 rfl (dv_sizeA noD_len)) rfl ⟨rfl, ?_⟩
    exact Lib.hid (own_row P3.out.below K9.out)
   | some s=>
    have hs0:¬((s:Int) < 0):=by omega
    rw [pls]
    by_cases h4:n=4
    case neg=>
     have h4b:((n:Int) !=4)=true:=by rw [bne_iff_ne];omega
     have hx:X=none:=by
      rw [HX.out]
      exact if_neg (fun h=> h4 (by omega))
     subst hx
     go_wp2_with (first
      | ((with_reducible refine build_all ?_ 27 #[] ?_ (dv noD).toArray ?_ ?_);rfl;rfl;go_must (refine Eq.trans ?_ built_none;kernel_rfl))
      | ((with_reducible refine store_all ?_ 27 (.tmp 2) (.tmp 32) ?_ w.heap.size (dv noD) ?_ ?_ (dv noD) ?_ ?_ ?_ ?_ ?_);rfl;rfl;go_must (rfl;rfl;rfl;exact P3.out.res;exact dv_size noD_len;exact dv_all _;intro w9 R9 K9 E9)))
     refine bodyPost_ret (v:= .tuple #[.agg (dv noD).toArray, .bool false]) (results_row_tmp (fn:=Tryz.f32) (p:=2) (u:=3) rfl _ _ w.heap.size _ (dv noD).toArray _ _ rfl R9.out Tryz.underlying27 rfl (dv_sizeA noD_len)) rfl ⟨rfl, ?_⟩
     exact Lib.hid (own_row P3.out.below K9.out)
    case pos=>
     subst h4
     have hm1:=HH1.out m rfl
     have hd1:=HH2.out d rfl
     have hs1:=HH3.out s rfl
     have hXX:X=if L[m].kind=4∧L[d].kind=4∧L[s].kind=3 then (Dg.parse L[d].text).bind fun x=> (intF L[s].text).bind fun n=> if sizeOk n=true then some (Desc.mk L[m].text x n) else none else none:=by
      rw [HX.out]
      dsimp only
      rw [List.drop_eq_getElem_cons hm1,List.drop_eq_getElem_cons hd1,List.drop_eq_getElem_cons hs1]
      show (if L.length=4∧L[m].kind=4∧L[d].kind=4∧L[s].kind=3 then (Dg.parse L[d].text).bind fun x=> (intF L[s].text).bind fun n=> if sizeOk n=true then some (Desc.mk L[m].text x n) else none else none)=_
      have h4l:L.length=4:=by omega
      by_cases hk:L[m].kind=4∧L[d].kind=4∧L[s].kind=3
      ·rw [if_pos hk,if_pos ⟨h4l,hk⟩]
      ·rw [if_neg hk,if_neg (fun h=> hk h.2)]
     have HXX:=Lib.hid hXX
     obtain ⟨b,o,hA,hb,_⟩:=HAA.out (by omega)
     subst hA
     have HC1:=Lib.hid (fun W (q:Below w.heap.size w W)=> (HVA.out W q).cells hm1)
     have HC2:=Lib.hid (fun W (q:Below w.heap.size w W)=> (HVA.out W q).cells hd1)
     have HC3:=Lib.hid (fun W (q:Below w.heap.size w W)=> (HVA.out W q).cells hs1)
     have htd:L[d].text.length≤1000000000:=(HSS.out _ (List.getElem_mem hd1)).2
     have hts:L[s].text.length≤1000000000:=(HSS.out _ (List.getElem_mem hs1)).2
     clear hXX HX HH1 HH2 HH3 HVA HAA HSS
     have hm9:(m:Int) < 4:=by omega
     have hd9:(d:Int) < 4:=by omega
     have hs9:(s:Int) < 4:=by omega
     have hmz:(0:Int)≤(m:Int):=by omega
     have hdz:(0:Int)≤(d:Int):=by omega
     have hsz:(0:Int)≤(s:Int):=by omega
     generalize L[m]=vm at*
     generalize L[d]=vd at*
     generalize L[s]=vs at*
     clear hm1 hd1 hs1 hlen
     obtain ⟨_,_,y2,_⟩:=HC2.out w3 P3.out.below
     go_wp2_with fail
     have HDP:=refparse_any vd.text htd w3
     change Calls _ _ #[.string (sb vd.text)] _ _ at HDP
     have hdl:=Dg.orZero_length vd.text
     generalize Dg.parse vd.text=Y at HDP HXX hdl
     refine HDP.mono ?_
     rintro e w4 ⟨rfl,K4⟩
     have P4:=Lib.hid (P3.out.next K4)
     clear y2 P3 K4 HDP
     obtain ⟨G,hG⟩:∃G,G=Dg.orZero Y:=⟨_,rfl⟩
     rw [←hG]at hdl ⊢
     have HG:=Lib.hid hG
     have HDL:=Lib.hid hdl
     clear hdl hG
     go_upto_region 7 with ((with_reducible refine store_all ?_ 25 (.tmp 7) (.tmp 40) ?_ w4.heap.size (G.map v8) ?_ ?_ (List.replicate 32 (v8 0)) ?_ ?_ ?_ ?_ ?_);rfl;rfl;go_must (rfl;rfl;(rw [List.length_replicate,List.length_map,HDL.out]);exact Row.at_ _ _ _ rfl rfl;(rw [List.length_map,HDL.out];kernel_rfl);exact oneCell_map v8 (fun _=> rfl) G;intro w5 R5 K5 S5))
     have KB5:=Lib.hid (show Below w4.heap.size w4 w5 from (kept_stored K5.out).below (Nat.le_refl _) (fun _ _ h=> h))
     have P5:=Lib.hid (P4.out.next KB5.out)
     have hg4:w.heap.size < w4.heap.size:=P4.out.res.lt
     clear P4 K5 S5 KB5
     generalize w4.heap.size=q at R5 hg4 ⊢
     obtain ⟨z0,_,z2,_⟩:=HC3.out w5 P5.out.below
     obtain ⟨x0,_,x2,_⟩:=HC1.out w5 P5.out.below
     obtain ⟨y0,_,_,_⟩:=HC2.out w5 P5.out.below
     clear HC1 HC2 HC3
     go_wp2_with fail
     refine (jt_rint w5 vs.text hts).mono ?_
     rintro e w6 ⟨rfl,rfl⟩
     have hir:∀y,intF vs.text=some y→ -9223372036854775808≤y∧y≤9223372036854775807:=fun y h=> (text_int h).2.2
     generalize intF vs.text=I at HXX hir ⊢
     clear htd hts
     generalize hvm:sb vm.text=tm at x2 ⊢
     have HVM:=Lib.hid hvm
     clear hvm
     generalize sb vs.text=ts at z2 ⊢
     have hcase:(vm.kind=4∧vd.kind=4∧vs.kind=3)∨vm.kind≠4∨(vm.kind=4∧vd.kind≠4)∨(vm.kind=4∧vd.kind=4∧vs.kind≠3):=by omega
     rcases hcase with ⟨k1,k2,k3⟩ | k1 | ⟨k1,k2⟩ | ⟨k1,k2,k3⟩
     ·have HXY:Hid (X=Y.bind fun x=> I.bind fun n=> if sizeOk n=true then some ⟨vm.text,x,n⟩ else none):=Lib.hid (by rw [HXX.out,if_pos ⟨k1,k2,k3⟩])
      rw [k1]at x0
      rw [k2]at y0
      rw [k3]at z0
      clear HXX k1 k2 k3
      cases Y with
      | none=>
       have hx:X=none:=HXY.out
       subst hx
       simp only [Option.isSome_none]
       obtain ⟨z,bz,hIV⟩:∃z bz,intV I= .tuple #[.int .i64 z, .bool bz]:=by cases I <;> exact ⟨_,_,rfl⟩
       rw [hIV]
       clear hIV
       go_wp2_with (first
        | ((with_reducible refine build_all ?_ 27 #[] ?_ (dv noD).toArray ?_ ?_);rfl;rfl;go_must (refine Eq.trans ?_ built_none;kernel_rfl))
        | ((with_reducible refine store_all ?_ 27 (.tmp 2) (.tmp 89) ?_ w.heap.size (dv noD) ?_ ?_ (dv noD) ?_ ?_ ?_ ?_ ?_);rfl;rfl;go_must (rfl;rfl;rfl;exact P5.out.res;exact dv_size noD_len;exact dv_all _;intro w9 R9 K9 E9)))
       refine bodyPost_ret (v:= .tuple #[.agg (dv noD).toArray, .bool false]) (results_row_tmp (fn:=Tryz.f32) (p:=2) (u:=3) rfl _ _ w.heap.size _ (dv noD).toArray _ _ rfl R9.out Tryz.underlying27 rfl (dv_sizeA noD_len)) rfl ⟨rfl, ?_⟩
       exact Lib.hid (own_row P5.out.below K9.out)
      | some x=>
       have hGx:G=x:=HG.out
       simp only [Option.isSome_some]
       cases I with
       | none=>
        have hx:X=none:=HXY.out
        subst hx
        unfold intV
        go_wp2_with (first
         | ((with_reducible refine build_all ?_ 27 #[] ?_ (dv noD).toArray ?_ ?_);rfl;rfl;go_must (refine Eq.trans ?_ built_none;kernel_rfl))
         | ((with_reducible refine store_all ?_ 27 (.tmp 2) (.tmp 89) ?_ w.heap.size (dv noD) ?_ ?_ (dv noD) ?_ ?_ ?_ ?_ ?_);rfl;rfl;go_must (rfl;rfl;rfl;exact P5.out.res;exact dv_size noD_len;exact dv_all _;intro w9 R9 K9 E9)))
        refine bodyPost_ret (v:= .tuple #[.agg (dv noD).toArray, .bool false]) (results_row_tmp (fn:=Tryz.f32) (p:=2) (u:=3) rfl _ _ w.heap.size _ (dv noD).toArray _ _ rfl R9.out Tryz.underlying27 rfl (dv_sizeA noD_len)) rfl ⟨rfl, ?_⟩
        exact Lib.hid (own_row P5.out.below K9.out)
       | some y=>
        obtain ⟨hy0,hy1⟩:=hir y rfl
        have HXZ:Hid (X=if sizeOk y=true then some ⟨vm.text,x,y⟩ else none):=Lib.hid HXY.out
        clear HXY
        unfold intV
        by_cases g0:y < 0
        ·have hx:X=none:=by
          rw [HXZ.out]
          exact if_neg (fun h=> by have:=of_decide_eq_true h;omega)
         subst hx
         have g0b:decide (y < 0)=true:=decide_eq_true g0
         go_wp2_with (first
          | ((with_reducible refine build_all ?_ 27 #[] ?_ (dv noD).toArray ?_ ?_);rfl;rfl;go_must (refine Eq.trans ?_ built_none;kernel_rfl))
          | ((with_reducible refine store_all ?_ 27 (.tmp 2) (.tmp 89) ?_ w.heap.size (dv noD) ?_ ?_ (dv noD) ?_ ?_ ?_ ?_ ?_);rfl;rfl;go_must (rfl;rfl;rfl;exact P5.out.res;exact dv_size noD_len;exact dv_all _;intro w9 R9 K9 E9)))
         refine bodyPost_ret (v:= .tuple #[.agg (dv noD).toArray, .bool false]) (results_row_tmp (fn:=Tryz.f32) (p:=2) (u:=3) rfl _ _ w.heap.size _ (dv noD).toArray _ _ rfl R9.out Tryz.underlying27 rfl (dv_sizeA noD_len)) rfl ⟨rfl, ?_⟩
         exact Lib.hid (own_row P5.out.below K9.out)
        by_cases g1:4611686018427387904 < y
        ·have hx:X=none:=by
          rw [HXZ.out]
          exact if_neg (fun h=> by have:=of_decide_eq_true h;omega)
         subst hx
         have g0b:decide (y < 0)=false:=decide_eq_false g0
         have g1b:decide (4611686018427387904 < y)=true:=decide_eq_true g1
         go_wp2_with (first
          | ((with_reducible refine build_all ?_ 27 #[] ?_ (dv noD).toArray ?_ ?_);rfl;rfl;go_must (refine Eq.trans ?_ built_none;kernel_rfl))
          | ((with_reducible refine store_all ?_ 27 (.tmp 2) (.tmp 89) ?_ w.heap.size (dv noD) ?_ ?_ (dv noD) ?_ ?_ ?_ ?_ ?_);rfl;rfl;go_must (rfl;rfl;rfl;exact P5.out.res;exact dv_size noD_len;exact dv_all _;intro w9 R9 K9 E9)))
         refine bodyPost_ret (v:= .tuple #[.agg (dv noD).toArray, .bool false]) (results_row_tmp (fn:=Tryz.f32) (p:=2) (u:=3) rfl _ _ w.heap.size _ (dv noD).toArray _ _ rfl R9.out Tryz.underlying27 rfl (dv_sizeA noD_len)) rfl ⟨rfl, ?_⟩
         exact Lib.hid (own_row P5.out.below K9.out)
        have hx:X=some ⟨vm.text,x,y⟩:=by
         rw [HXZ.out]
         exact if_pos (decide_eq_true ⟨by omega,by omega⟩)
        subst hx
        have g0b:decide (y < 0)=false:=decide_eq_false g0
        have g1b:decide (4611686018427387904 < y)=false:=decide_eq_false g1
        have hxl:x.length=32:=by rw [←hGx];exact HDL.out
        have HB:Hid (Tryz.prog.built 27 [(0, .string tm),(1, .agg (G.map v8).toArray),(2, .int .i64 y)]=some (dv ⟨vm.text,x,y⟩).toArray):=Lib.hid (by rw [←HVM.out,hGx];exact built_desc vm.text y x hxl)
        have HGL:Hid ((G.map v8).length=32):=Lib.hid (by rw [List.length_map];exact HDL.out)
        have hDX:=dv_len (d:=⟨vm.text,x,y⟩) hxl
        have HDX:=Lib.hid hDX
        have HDS:=Lib.hid (dv_all ⟨vm.text,x,y⟩)
        clear hDX
        generalize hGM:G.map v8=GM at*
        generalize hDM:dv ⟨vm.text,x,y⟩=DM at*
        have HDM:=Lib.hid hDM
        clear hGM hDM
        go_wp2_with fail
        have P6:=Lib.hid (P5.out.next (below_drewN (Below.refl _ _) 1:Below w6.heap.size w6 w6.drew))
        have KD:Below w6.heap.size w6 w6.drew:=below_drewN (Below.refl _ _) 1
        have hbw:b < w6.heap.size:=World.block_lt_of_cell? w6 _ x2
        have x6:w6.drew.cell? ⟨b,o+m*4+2,none⟩=some (.string tm):=(KD.cell hbw).trans x2
        have R6:Row w6.drew q 25 GM:=R5.out.below KD R5.out.lt
        have hu:=Tryz.underlying25
        have hi:(Tryz.prog.info? 25).map (·.size)=some GM.length:=by rw [HGL.out];kernel_rfl
        refine wp_region_noPanic ?_
        refine wp_region_held_drew (S:=fun x=> x.cell? ⟨b,o+m*4+2,none⟩=some (.string tm)∧x.rangeAt q 0 GM) (by kernel_rfl) ⟨x6,rangeAt_row R6⟩ (fun hHeld=> ?_)
        refine wpAnyH_take (i:=0) (v:= .slice (some ⟨b,o,none⟩) 4 c) rfl (by kernel_rfl) (by kernel_rfl) (by kernel_rfl) (fun _ _ _ h=> h) (Or.inl ⟨by rfl,fun _ _=> rfl⟩) hHeld ?_
        simp only [List.getElem_toArray,List.getElem_cons_zero,Act.put,List.setIfInBounds_toArray,List.set_cons_zero,List.set_cons_succ]
        refine wpAnyH_take (i:=1) (v:= .int .i64 (m:Int)) rfl (by kernel_rfl) (by kernel_rfl) (by kernel_rfl) (fun _ _ _ h=> h) (Or.inl ⟨by rfl,fun _ _=> rfl⟩) hHeld ?_
        simp only [List.getElem_toArray,List.getElem_cons_succ,List.getElem_cons_zero,Act.put,List.setIfInBounds_toArray,List.set_cons_zero,List.set_cons_succ]
        refine wpAnyH_take (i:=2) (v:= .pointer (some ⟨b,o+m*4,none⟩)) rfl (by kernel_rfl) (by kernel_rfl) (by kernel_rfl) (fun _ _ _ h=> h) (Or.inl ⟨by rfl, ?_⟩) hHeld ?_
        ·intro x hx;go_simp
        simp only [List.getElem_toArray,List.getElem_cons_succ,List.getElem_cons_zero,Act.put,List.setIfInBounds_toArray,List.set_cons_zero,List.set_cons_succ]
        refine wpAnyH_take (i:=3) (v:= .pointer (some ⟨b,o+m*4+2,none⟩)) rfl (by kernel_rfl) (by kernel_rfl) (by kernel_rfl) (fun _ _ _ h=> h) (Or.inl ⟨by rfl, ?_⟩) hHeld ?_
        ·intro x hx;go_simp
        simp only [List.getElem_toArray,List.getElem_cons_succ,List.getElem_cons_zero,Act.put,List.setIfInBounds_toArray,List.set_cons_zero,List.set_cons_succ]
        refine wpAnyH_take (i:=4) (v:= .string tm) rfl (by kernel_rfl) (by kernel_rfl) (by kernel_rfl) (fun _ _ _ h=> h) (Or.inl ⟨by rfl, ?_⟩) hHeld ?_
        ·intro x hx;obtain ⟨hx,_⟩:=hx;go_simp
        simp only [List.getElem_toArray,List.getElem_cons_succ,List.getElem_cons_zero,Act.put,List.setIfInBounds_toArray,List.set_cons_zero,List.set_cons_succ]
        refine wpAnyH_take (i:=5) (v:= .agg GM.toArray) rfl (by kernel_rfl) (by kernel_rfl) (by kernel_rfl) (fun _ _ _ h=> h) (yieldsIf_load_mid (by rfl) _ _ rfl _ _ rfl _ _ (fun x hx=> hx.2) hu rfl hi) hHeld ?_
        simp only [List.getElem_toArray,List.getElem_cons_succ,List.getElem_cons_zero,Act.put,List.setIfInBounds_toArray,List.set_cons_zero,List.set_cons_succ]
        refine wpAnyH_take (i:=6) (v:= .int .i64 y) rfl (by kernel_rfl) (by kernel_rfl) (by kernel_rfl) (fun _ _ _ h=> h) (Or.inl ⟨by rfl,fun _ _=> rfl⟩) hHeld ?_
        simp only [List.getElem_toArray,List.getElem_cons_succ,List.getElem_cons_zero,Act.put,List.setIfInBounds_toArray,List.set_cons_zero,List.set_cons_succ]
        refine wpAnyH_take (i:=7) (v:= .agg DM.toArray) rfl (by kernel_rfl) (by kernel_rfl) (by kernel_rfl) (fun _ _ _ h=> h) (Or.inl ⟨by rfl,fun x _=> rd_run (run_build x 27 _ _ (by simp only [List.map_toArray,List.map_cons,List.map_nil];exact HB.out))⟩) hHeld ?_
        simp only [List.getElem_toArray,List.getElem_cons_succ,List.getElem_cons_zero,Act.put,List.setIfInBounds_toArray,List.set_cons_zero,List.set_cons_succ]
        refine wpAnyH_ready (rs:=[8]) (by kernel_rfl) (by simp) ?_
        refine AllReadyH.cons rfl (fun K hK=> ?_) AllReadyH.nil
        rw [if_pos (by rfl)]
        have hl34:DM.toArray.size=34:=by rw [List.size_toArray];exact HDX.out
        refine wp_store_row 27 (.tmp 2) (.tmp 97) rfl w.heap.size DM.toArray rfl rfl 27 _ P6.out.res (by rw [hl34];exact mt_sizeD) (by rw [hl34];rfl) HDS.out ?_
        have K9:=Lib.hid (show Kept w6.drew (w6.drew.setRow w.heap.size DM.toArray) (·=w.heap.size)from (Kept.refl w6.drew (·=w.heap.size)).setRow (b:=w.heap.size) (.inr rfl) _)
        have R9:=Lib.hid (show Row (w6.drew.setRow w.heap.size DM.toArray) w.heap.size 27 DM from Row.setRow P6.out.res _)
        have x9:(w6.drew.setRow w.heap.size DM.toArray).cell? ⟨b,o+m*4+2,none⟩=some (.string tm):=K9.out.cell x6 (fun e=> by have e2:b=w.heap.size:=e;omega)
        have r9:=rangeAt_kept (rangeAt_row R6) K9.out (fun e=> by have e2:q=w.heap.size:=e;omega)
        generalize w6.drew.setRow w.heap.size DM.toArray=w9 at*
        refine hK.out _ _ ⟨x9,r9⟩ (fun hHeld=> ?_)
        clear hK K
        simp only [List.getElem_toArray,List.getElem_cons_succ,List.getElem_cons_zero,Act.put]
        refine wpAnyH_take (i:=9) (v:= .bool true) rfl (by kernel_rfl) (by kernel_rfl) (by kernel_rfl) (fun _ _ _ h=> h) (Or.inl ⟨by rfl,fun _ _=> rfl⟩) hHeld ?_
        simp only [List.getElem_toArray,List.getElem_cons_succ,List.getElem_cons_zero,Act.put,List.setIfInBounds_toArray,List.set_cons_zero,List.set_cons_succ]
        refine wpAnyH_done (by kernel_rfl) ?_ _
        refine NoPanic.normal ?_
        go_wp2_with fail
        refine bodyPost_ret (v:= .tuple #[.agg DM.toArray, .bool true]) (results_row_tmp (fn:=Tryz.f32) (p:=2) (u:=3) rfl _ _ w.heap.size _ DM.toArray _ _ rfl R9.out Tryz.underlying27 rfl (by rw [List.size_toArray,HDX.out];exact mt_sizeD)) rfl ⟨by rw [←HDM.out];rfl, ?_⟩
        exact Lib.hid (own_row P6.out.below K9.out)
     ·have hx:X=none:=by rw [HXX.out];exact if_neg (fun h=> k1 h.1)
      subst hx
      have kb:(vm.kind !=4)=true:=by rw [bne_iff_ne];exact k1
      clear k1 HXX
      generalize vm.kind=vk at*
      generalize vd.kind=dk at*
      generalize vs.kind=sk at*
      obtain ⟨z,bz,hIV⟩:∃z bz,intV I= .tuple #[.int .i64 z, .bool bz]:=by cases I <;> exact ⟨_,_,rfl⟩
      rw [hIV]
      clear hIV
      generalize Y.isSome=ys at*
      go_wp2_with (first
       | ((with_reducible refine build_all ?_ 27 #[] ?_ (dv noD).toArray ?_ ?_);rfl;rfl;go_must (refine Eq.trans ?_ built_none;kernel_rfl))
       | ((with_reducible refine store_all ?_ 27 (.tmp 2) (.tmp 89) ?_ w.heap.size (dv noD) ?_ ?_ (dv noD) ?_ ?_ ?_ ?_ ?_);rfl;rfl;go_must (rfl;rfl;rfl;exact P5.out.res;exact dv_size noD_len;exact dv_all _;intro w9 R9 K9 E9)))
      refine bodyPost_ret (v:= .tuple #[.agg (dv noD).toArray, .bool false]) (results_row_tmp (fn:=Tryz.f32) (p:=2) (u:=3) rfl _ _ w.heap.size _ (dv noD).toArray _ _ rfl R9.out Tryz.underlying27 rfl (dv_sizeA noD_len)) rfl ⟨rfl, ?_⟩
      exact Lib.hid (own_row P5.out.below K9.out)
     ·have hx:X=none:=by rw [HXX.out];exact if_neg (fun h=> k2 h.2.1)
      subst hx
      have kb:(vd.kind !=4)=true:=by rw [bne_iff_ne];exact k2
      rw [k1]at x0
      clear k1 k2 HXX
      generalize vd.kind=dk at*
      generalize vs.kind=sk at*
      obtain ⟨z,bz,hIV⟩:∃z bz,intV I= .tuple #[.int .i64 z, .bool bz]:=by cases I <;> exact ⟨_,_,rfl⟩
      rw [hIV]
      clear hIV
      generalize Y.isSome=ys at*
      go_wp2_with (first
       | ((with_reducible refine build_all ?_ 27 #[] ?_ (dv noD).toArray ?_ ?_);rfl;rfl;go_must (refine Eq.trans ?_ built_none;kernel_rfl))
       | ((with_reducible refine store_all ?_ 27 (.tmp 2) (.tmp 89) ?_ w.heap.size (dv noD) ?_ ?_ (dv noD) ?_ ?_ ?_ ?_ ?_);rfl;rfl;go_must (rfl;rfl;rfl;exact P5.out.res;exact dv_size noD_len;exact dv_all _;intro w9 R9 K9 E9)))
      refine bodyPost_ret (v:= .tuple #[.agg (dv noD).toArray, .bool false]) (results_row_tmp (fn:=Tryz.f32) (p:=2) (u:=3) rfl _ _ w.heap.size _ (dv noD).toArray _ _ rfl R9.out Tryz.underlying27 rfl (dv_sizeA noD_len)) rfl ⟨rfl, ?_⟩
      exact Lib.hid (own_row P5.out.below K9.out)
     ·have hx:X=none:=by rw [HXX.out];exact if_neg (fun h=> k3 h.2.2)
      subst hx
      have kb:(vs.kind !=3)=true:=by rw [bne_iff_ne];exact k3
      rw [k1]at x0
      rw [k2]at y0
      clear k1 k2 k3 HXX
      generalize vs.kind=sk at*
      obtain ⟨z,bz,hIV⟩:∃z bz,intV I= .tuple #[.int .i64 z, .bool bz]:=by cases I <;> exact ⟨_,_,rfl⟩
      rw [hIV]
      clear hIV
      generalize Y.isSome=ys at*
      go_wp2_with (first
       | ((with_reducible refine build_all ?_ 27 #[] ?_ (dv noD).toArray ?_ ?_);rfl;rfl;go_must (refine Eq.trans ?_ built_none;kernel_rfl))
       | ((with_reducible refine store_all ?_ 27 (.tmp 2) (.tmp 89) ?_ w.heap.size (dv noD) ?_ ?_ (dv noD) ?_ ?_ ?_ ?_ ?_);rfl;rfl;go_must (rfl;rfl;rfl;exact P5.out.res;exact dv_size noD_len;exact dv_all _;intro w9 R9 K9 E9)))
      refine bodyPost_ret (v:= .tuple #[.agg (dv noD).toArray, .bool false]) (results_row_tmp (fn:=Tryz.f32) (p:=2) (u:=3) rfl _ _ w.heap.size _ (dv noD).toArray _ _ rfl R9.out Tryz.underlying27 rfl (dv_sizeA noD_len)) rfl ⟨rfl, ?_⟩
      exact Lib.hid (own_row P5.out.below K9.out)
end Go.Proofs.YtmkjcleecjjchaaGreatDoor
