import Derived.Test.YtgmangikcfakgaaGreatDoorPP40
import Derived.Test.YtgmangikcfakgaaGreatDoorPP12
import Derived.Test.YtgmangikcfakgaaGreatDoorPP31
import Derived.Test.YtgmangikcfakgaaGreatDoorPP36
import Derived.Test.YtgmangikcfakgaaGreatDoorPP32
import Derived.Test.YtgmangikcfakgaaGreatDoorPP22
import Derived.Test.YtgmangikcfakgaaGreatDoorPP34
namespace Go.Proofs.YtgmangikcfakgaaGreatDoor
open Go.RowKit Sh Jt Js Jo
namespace Jo
theorem quote_short:∀(m:Nat) (s:List UInt8),s.length≤m→(quoteB s).length≤6*s.length
 | _,[],_=> by rw [quote_nil];exact Nat.zero_le _
 | 0,_::_,h=> by simp at h
 | m+1,a::r,h=> by
  by_cases h0:(charF (a::r)).2=0
  ·rw [quote_bad h0,List.length_append]
   have h1:=quote_short m r (by simpa using h)
   have h2:=bytes_len 65533
   rw [List.length_cons]
   omega
  ·rw [quote_on h0,List.length_append]
   obtain ⟨c1,c2⟩:=char_len h0
   have hd:((a::r).drop (charF (a::r)).2).length=(a::r).length - (charF (a::r)).2:=List.length_drop
   have h1:=quote_short m ((a::r).drop (charF (a::r)).2) (by omega)
   have h2:(if (charF (a::r)).1 < 128 then Jt.oneF (charF (a::r)).1 else bytesF (charF (a::r)).1).length≤6:=by
    split
    next hlt=> exact one_len hlt
    next _=> have:=bytes_len (charF (a::r)).1;omega
   omega
end Jo
theorem jo_rmended (w:World) (s:List UInt8) (hs:s.length≤250000):Calls Tryz.prog 149 #[.string (sb s)] w fun e w'=> e= .returned (.string (sb (fixF s)))∧Hid (Below w.heap.size w w'):=by
 have HQ:=Lib.hid (jt_rquote w s (by omega))
 have hq:(quoteF s).length≤1000000000:=by
  have:=quote_short s.length s (Nat.le_refl _)
  unfold quoteF
  rw [List.length_cons,List.length_append]
  have h1:([34]:List UInt8).length=1:=rfl
  omega
 have HU:=Lib.hid (fun W=> jt_runquote W (quoteF s) hq)
 have hb:=unq_back s []
 rw [List.append_nil]at hb
 rw [hb]at HU
 unfold unqV at HU
 dsimp only at HU
 clear hb hq hs
 generalize (quoteF s).length=qn at*
 generalize sb (quoteF s)=Z at*
 generalize sb (fixF s)=F at*
 generalize sb s=S at*
 go_enter Tryz.func149,Tryz.ntmps149
 go_wp2_with fail
 refine HQ.out.mono ?_
 rintro e w2 ⟨rfl,B2⟩
 have HB2:=Lib.hid B2
 clear HQ B2
 go_wp2_with fail
 refine (HU.out w2).mono ?_
 rintro e w3 ⟨rfl,B3⟩
 have HB3:=Lib.hid (HB2.out.trans (B3.mono HB2.out.size))
 clear HU B3 HB2
 go_wp2_with fail
 go_ret
 exact ⟨rfl,HB3⟩
theorem jo_rtext (w:World) (s:List UInt8) (hs:s.length≤250000):Calls Tryz.prog 116 #[.string (sb s)] w fun e w'=> ∃v',e= .returned v'∧Hid (OwnVals w' w.heap.size v' [⟨4,[],fixF s,0⟩]∧Below w.heap.size w w'):=by
 have HI:=Lib.hid (jo_rmended w s hs)
 have HOW:=Lib.hid (fun W=> own_laid W ⟨4,[],fixF s,0⟩)
 have HBW:=Lib.hid (fun W=> below_alloc' W (.cells #[.int .i64 4, .string (sb []), .string (sb (fixF s)), .int .i64 0] 72))
 dsimp only at HOW
 clear hs
 generalize sb (fixF s)=F at*
 generalize sb s=S at*
 go_enter Tryz.func116,Tryz.ntmps116
 go_wp2_with fail
 refine HI.out.mono ?_
 rintro e w3 ⟨rfl,HB3⟩
 clear HI
 go_wp2_with (with_reducible refine jo_build1 rfl _ rfl 4 ⟨#[]⟩ F 0 rfl ?_)
 go_ret
 exact ⟨_,rfl,Lib.hid ⟨(HOW.out w3).mono HB3.out.size,HB3.out.trans ((HBW.out w3).mono HB3.out.size)⟩⟩
end Go.Proofs.YtgmangikcfakgaaGreatDoor
namespace Go.Proofs.YtgmangikcfakgaaGreatDoor
open Go.RowKit Sh Jt Js Jo
set_option maxRecDepth 100000
namespace Jo
theorem right_idV (d:List UInt8):rightPF (idV d)=true:=right_one (one_str (by decide) (fun _=> rfl) valid_none (text_valid d)) (show 1≤5000 by decide)
theorem list_made {ids:List (List UInt8)} (hl:ids.length≤60):listA (ids.map idV)=listF (ids.map idV)∧rightPF (listF (ids.map idV))=true:=by
 have hp:=ids_parts (d:=1) (by decide) ids
 obtain ⟨t,o⟩:=one_list (d:=0) (o:=false) (key:=[]) (by decide) (fun _=> rfl) valid_none hp (List.length_map _)
 have hr:rightPF (listF (ids.map idV))=true:=by
  have hf:=flat_ids ids
  have:=one_right o (by omega)
  unfold listF
  rw [List.length_map]
  exact this
 refine ⟨?_,hr⟩
 unfold listA fineF
 rw [if_pos (List.all_eq_true.2 fun p hp=> by
  obtain ⟨d,_,rfl⟩:=List.mem_map.1 hp
  exact right_idV d),if_pos hr]
theorem root_made {ids:List (List UInt8)} (hl:ids.length≤60):objA [typeK,diffK] [[⟨4,[],fixF layersK,0⟩],listA (ids.map idV)]=rootV ids:=by
 obtain ⟨h1,h2⟩:=list_made hl
 have hv:validF layersK=true:=valid_ascii _ (by decide)
 have h3:rightPF [(⟨4,[],layersK,0⟩:V)]=true:=right_one (one_str (by decide) (fun _=> rfl) valid_none hv) (by decide)
 have he:objF [typeK,diffK] [[⟨4,[],layersK,0⟩],listF (ids.map idV)]=rootV ids:=by
  unfold rootV listF
  rw [List.length_map]
  simp [objF,named]
 rw [fix_same _ hv,h1]
 unfold objA fineF
 rw [if_pos ⟨by rw [List.all_cons,List.all_cons,h3,h2];rfl,rfl⟩,he,if_pos (root_right hl)]
end Jo
theorem below_ownC {w wr w':World} {S:Nat→Prop} (h:Below w.heap.size w wr) (k:Kept wr w' (fun k=> w.heap.size≤k∧S k)):Below w.heap.size w w':=
 h.trans (⟨k.os,k.tape,k.output,k.size,fun i hi=> k.block i (Nat.lt_of_lt_of_le hi h.size) (fun e=> by omega)⟩)
structure RowsG (w wx:World) (v:Value) (G:List (List UInt8)) (Q:List Pc):Prop where
 own:OwnSls wx w.heap.size v Q
 rows:rowsOf Q=G.map idV
 below:Below w.heap.size w wx
theorem RowsG.next {w wr w':World} {v:Value} {G:List (List UInt8)} {Q:List Pc} (h:RowsG w wr v G Q) (k:Below wr.heap.size wr w'):RowsG w w' v G Q:=⟨h.own.below k,h.rows,h.below.trans (k.mono h.below.size)⟩
set_option maxHeartbeats 16000000 in
theorem cf_rroot (w:World) (A:Option Addr) (n c:Nat) (G:List (List UInt8)) (hG:GsAt w A n c G) (hn:n≤60):
  Calls Tryz.prog 80 #[.slice A n c] w fun e w'=> ∃v',e= .returned v'∧Hid (OwnVals w' w.heap.size v' (rootV G)∧Below w.heap.size w w'):=by
 have hlen:=hG.len
 have HG:=Lib.hid (fun W (q:Below w.heap.size w W)=> hG.below q)
 obtain ⟨X,hX⟩:∃X,X=rootV G:=⟨_,rfl⟩
 rw [←hX]
 have HX:=Lib.hid (hX.trans (root_made (by omega)).symm)
 clear hG hX
 have hb1:=run_build_sls1
 have hb2:=run_build_sls2
 have hbs:=run_build_str2
 go_enter Tryz.func80,Tryz.ntmps80
 go_wp2_with fail
 go_loopg [3,4] n (fun g v3 v4 wx=> ∃(j:Nat) (Q:List Pc),v4= .int .i64 (j:Int)∧j+g=n∧Hid (Q.length=j)∧Hid (RowsG w wx v3 (G.take j) Q))
 case atStart=> exact ⟨0,[],rfl,by omega,Lib.hid rfl,Lib.hid ⟨OwnSls.nil _ _,rfl,Below.refl _ _⟩⟩
 case round=>
  obtain ⟨j,Q,rfl,hjg,HQL,HH⟩:=hrel
  cases gk with
  | zero=>
   obtain rfl:j=n:=by omega
   have hall:G.take j=G:=List.take_of_length_le (by omega)
   rw [hall]at HH
   obtain ⟨A3,k3,rfl,hsl⟩:=HH.out.own.sls
   rw [HQL.out]at hsl ⊢
   have HSL:=Lib.hid hsl
   have HRO:=Lib.hid HH.out.rows
   have HBW:=Lib.hid HH.out.below
   clear hsl hall HH
   have hge:¬(j:Int) < (j:Int):=by omega
   have HXR:Hid (X=objA [typeK,diffK] [[⟨4,[],fixF layersK,0⟩],listA (rowsOf Q)]):=Lib.hid (by rw [HX.out,HRO.out])
   have HQS:=Lib.hid (show ∀p∈Q,Short 1000000000 p.row from fun p hp=> by
    have h1:p.row∈rowsOf Q:=List.mem_map.2 ⟨p,hp,rfl⟩
    rw [HRO.out]at h1
    obtain ⟨d,hd,e⟩:=List.mem_map.1 h1
    have h32:=(HG.out w (Below.refl _ _)).dig d hd
    have ht:=Dg.text_length d
    rw [←e]
    exact short_oneC (Nat.zero_le _) (by show (Dg.text d).length≤1000000000;omega))
   have HQF:=Lib.hid (show (rowsOf Q).flatten.length≤60 from by rw [HRO.out,flat_ids];omega)
   have HLS:=Lib.hid (show Short 1000000000 (listA (rowsOf Q))from short_listC fun p hp=> by
    obtain ⟨q,hq,rfl⟩:=List.mem_map.1 hp
    exact HQS.out q hq)
   have HLL:=Lib.hid (show (listA (rowsOf Q)).length≤61 from by
    rw [HRO.out,(list_made (by omega)).1]
    have:=flat_ids G
    unfold listF
    rw [List.length_cons]
    omega)
   have HT:=Lib.hid (fun W=> show Calls _ _ #[.string ⟨#[108,97,121,101,114,115]⟩] _ _ from own_any (n:=1) rfl (jo_rtext W layersK (by decide)))
   clear HRO HX
   go_wp2_with fail
   have HST:Hid (StrsAt (wr.alloc (.cells #[.string ⟨#[116,121,112,101]⟩, .string ⟨#[100,105,102,102,95,105,100,115]⟩] 9)) (some ⟨wr.heap.size,0,none⟩) 2 2 [typeK,diffK]):=Lib.hid (StrsAt.new2 wr typeK diffK)
   have HBA:=Lib.hid (below_alloc wr (.cells #[.string ⟨#[116,121,112,101]⟩, .string ⟨#[100,105,102,102,95,105,100,115]⟩] 9))
   generalize hW0:wr.alloc (.cells #[.string ⟨#[116,121,112,101]⟩, .string ⟨#[100,105,102,102,95,105,100,115]⟩] 9)=w4 at HST HBA
   generalize hW:World.alloc _ _=W'
   obtain rfl:w4=W':=hW0.symm.trans hW
   clear hW hW0
   have B4:=Lib.hid (HBW.out.trans (HBA.out.mono HBW.out.size))
   have HSL4:=Lib.hid (HSL.out.below HBA.out)
   clear HBW HBA HSL
   refine (HT.out w4).mono ?_
   rintro e w5 ⟨A5,k5,rfl,H5⟩
   have B5:=Lib.hid (B4.out.trans (H5.out.2.2.mono B4.out.size))
   have HSL5:=Lib.hid (HSL4.out.below H5.out.2.2)
   have HST5:=Lib.hid (HST.out.below H5.out.2.2)
   have HV5:=Lib.hid H5.out.2.1
   clear B4 HSL4 HST H5 HT
   go_wp2_with fail
   refine (own_any rfl (jo_rlist w5 A3 j k3 Q HSL5.out (by omega) HQS.out (by have:=HQF.out;omega))).mono ?_
   rintro e w6 ⟨A6,k6,rfl,H6⟩
   have B6:=Lib.hid (B5.out.trans (H6.out.2.2.mono B5.out.size))
   have HST6:=Lib.hid (HST5.out.below H6.out.2.2)
   have HV56:=Lib.hid (HV5.out.below H6.out.2.2)
   have HV6:=Lib.hid H6.out.2.1
   clear B5 HSL5 HST5 HV5 H6 HQS HQF
   generalize listA (rowsOf Q)=LQ at*
   generalize hk9:[(⟨4,[],fixF layersK,0⟩:V)]=LK at*
   have HLK:=Lib.hid (show Short 1000000000 LK∧LK.length=1 from by
    rw [←hk9,fix_same _ (valid_ascii _ (by decide):validF layersK=true)]
    exact ⟨short_oneC (Nat.zero_le _) (by decide),rfl⟩)
   clear hk9
   go_wp2_with fail
   have HS2:=Lib.hid (show SlsAt (w6.alloc (.cells #[.slice A5 1 k5, .slice A6 LQ.length k6] 26)) (some ⟨w6.heap.size,0,none⟩) 2 2 [⟨A5,k5,LK⟩,⟨A6,k6,LQ⟩]from
    SlsAt.new w6 [⟨A5,k5,LK⟩,⟨A6,k6,LQ⟩] (fun p hp=> by
     rcases List.mem_cons.1 hp with rfl | hp
     ·show ValsAt w6 A5 LK.length k5 LK
      rw [HLK.out.2]
      exact HV56.out
     ·rw [List.mem_singleton.1 hp]
      exact HV6.out) _ (by
      show _=#[Value.slice A5 LK.length k5, .slice A6 LQ.length k6]
      rw [HLK.out.2]) 2 rfl)
   have HB7:=Lib.hid (below_alloc w6 (.cells #[.slice A5 1 k5, .slice A6 LQ.length k6] 26))
   refine (jo_robject _ (some ⟨wr.heap.size,0,none⟩) 2 2 [typeK,diffK] (HST6.out.below HB7.out) (by decide) (some ⟨w6.heap.size,0,none⟩) 2 2 _ HS2.out (by decide) (fun p hp=> by
     rcases List.mem_cons.1 hp with rfl | hp
     ·exact HLK.out.1
     ·rw [List.mem_singleton.1 hp]
      exact HLS.out) (by
     show [LK,LQ].flatten.length≤4000
     have h1:LQ.length≤61:=HLL.out
     have h2:=HLK.out.2
     rw [List.flatten_cons,List.flatten_cons,List.flatten_nil,List.append_nil,List.length_append]
     omega)).mono ?_
   rintro e w8 ⟨v8,rfl,H8⟩
   go_wp2_with fail
   go_ret
   have B7:=B6.out.trans (HB7.out.mono B6.out.size)
   exact ⟨_,rfl,Lib.hid ⟨by rw [HXR.out];exact H8.out.1.mono B7.size,B7.trans (H8.out.2.mono B7.size)⟩⟩
  | succ g=>
   have hj:j < G.length:=by omega
   obtain ⟨b,o,rfl,hb,_⟩:=(HG.out wr HH.out.below).at_ (by omega)
   have HON:=Lib.hid ((HG.out wr HH.out.below).one hj)
   have HDD:=Lib.hid ((HG.out wr HH.out.below).dig _ (List.getElem_mem hj))
   have HNX:=Lib.hid (show G.take (j+1)=G.take j++[G[j]]from List.take_succ_eq_append_getElem hj)
   generalize G[j]=d at*
   have hjn:(j:Int) < (n:Int):=by omega
   have hjp:(0:Int)≤(j:Int):=by omega
   clear hbs hb2
   go_wp2_with ((with_reducible refine load_all ?_ 52 (.tmp 14) ?_ b (o+j*32) (d.map v8) (d.map v8).toArray ?_ _ ?_ Tryz.underlying52 ?_ ?_ ?_ ?_);rfl;rfl;go_must (rfl;exact HON.out;rfl;(rw [List.length_map,HDD.out];exact cf_sizeG);rfl))
   refine (refprint_any d HDD.out wr).mono ?_
   rintro e w4 ⟨rfl,K4⟩
   have HS4:=Lib.hid (HH.out.next K4)
   clear K4 HH HON
   have htx:(Dg.text d).length≤250000:=by
    have:=Dg.text_length d
    have:=HDD.out
    omega
   go_wp2_with fail
   have HTX:=jo_rtext w4 (Dg.text d) htx
   rw [fix_same _ (text_valid d)]at HTX
   refine (show Calls _ _ #[.string ⟨(Dg.text d).toArray⟩] _ _ from own_any (L:=idV d) (n:=1) rfl HTX).mono ?_
   clear HTX
   rintro e w5 ⟨A5,k5,rfl,H5⟩
   have HS5:=Lib.hid (HS4.out.next H5.out.2.2)
   have HFA:=Lib.hid (own_far HS4.out.own H5.out.1 (Nat.le_refl _) (Nat.le_refl _))
   have HV5:=Lib.hid H5.out.2.1
   clear H5 HS4 htx
   go_wp2_with (at_builtin;go_must (with_reducible refine append_sls rfl _ _ rfl w.heap.size u3 Q rfl (HS5.out.own.below (below_alloc _ _)) w5.heap.size ⟨A5,k5,idV d⟩ rfl ((Row.new w5 26 [.slice A5 1 k5]).cell rfl) (HV5.out.below (below_alloc _ _)) (fun b o e=> ⟨Nat.lt_of_lt_of_le (HFA.out b o e).1 (below_alloc _ _).size,(HFA.out b o e).2⟩) (by rw [HQL.out];omega) (Nat.le_trans HS5.out.below.size (below_alloc _ _).size) ?_;intro v6 w6 h1 h2))
   go_roundg g
   case measure=> omega
   case rel=> exact ⟨j+1,Q++[⟨A5,k5,idV d⟩],by go_num,by omega,Lib.hid (by rw [List.length_append,HQL.out];rfl),Lib.hid ⟨h1.out,by unfold rowsOf;rw [List.map_append,HNX.out,List.map_append,←HS5.out.rows];rfl,below_ownC (HS5.out.below.trans ((below_alloc _ _).mono HS5.out.below.size)) h2.out⟩⟩
end Go.Proofs.YtgmangikcfakgaaGreatDoor
namespace Go.Proofs.YtgmangikcfakgaaGreatDoor
open Go.RowKit Sh Jt Js Jo
set_option maxRecDepth 100000
namespace Jo
theorem setA_fewC (L X:List V) (key:List UInt8):(setA L key X).length≤5000:=by
 by_cases h:0 < (setA L key X).length
 ·obtain ⟨_,_,h2,e⟩:=set_inv h
  rw [e]
  exact right_short h2
 ·omega
end Jo
structure RowAt (B:Nat) (w:World) (A0 A:Option Addr) (n c:Nat) (L:List V):Prop where
 vals:ValsAt w A n c L
 far:A=A0∨∀b o,A=some ⟨b,o,none⟩→B≤b∧b < w.heap.size
def RRowPost (w:World) (R:List V) (A0:Option Addr) (e:Ending) (w':World):Prop:=
 ∃A c,e= .returned (.slice A R.length c)∧Hid (RowAt w.heap.size w' A0 A R.length c R∧Below w.heap.size w w')
set_option maxHeartbeats 16000000 in
theorem cf_rrow (w:World) (pe:Pe) (hV:ValsAt w pe.rest.at_ pe.rest.row.length pe.rest.cap pe.rest.row) (hl:pe.rest.row.length≤5000) (hs:Short 1048576 pe.rest.row) (hw:pe.who.length≤250000) (hv:validF pe.who=true):
  Calls Tryz.prog 81 #[.agg #[.string (sb pe.who), .bool pe.empty,pe.rest.enc]] w (RRowPost w (rowH pe.hist) pe.rest.at_):=by
 obtain ⟨who,em,⟨A0,c0,R0⟩⟩:=pe
 dsimp only at*
 have HV:=Lib.hid (fun W (q:Below w.heap.size w W)=> hV.below q)
 have HBX:=Lib.hid (show Row (w.alloc (.cells #[.string (sb who), .bool em, .slice A0 R0.length c0] 42)) w.heap.size 42 [.string (sb who), .bool em, .slice A0 R0.length c0]from Row.new _ _ _)
 have HB0:=Lib.hid (below_alloc w (.cells #[.string (sb who), .bool em, .slice A0 R0.length c0] 42))
 obtain ⟨R,hR⟩:∃R,R=rowH (Pe.hist ⟨who,em,⟨A0,c0,R0⟩⟩):=⟨_,rfl⟩
 have HR:Hid (R=if em=true then setA (if who=[] then R0 else setA R0 byK [⟨4,[],who,0⟩]) emptyK [⟨1,[],[],0⟩] else if who=[] then R0 else setA R0 byK [⟨4,[],who,0⟩]):=Lib.hid hR
 show Calls _ _ _ w (RRowPost w (rowH (Pe.hist ⟨who,em,⟨A0,c0,R0⟩⟩)) A0)
 rw [←hR]
 clear hR hV
 have HS:=Lib.hid hs
 have HTV:=Lib.hid (fun W=> show Calls _ _ #[.string (sb who)] _ _ from own_any (L:=[⟨4,[],who,0⟩]) (n:=1) rfl (by have:=jo_rtext W who (by omega);rw [fix_same _ hv]at this;exact this))
 clear hs hv
 go_enter Tryz.func81,Tryz.ntmps81
 go_upto_region 1 with fail
 generalize hW0:w.alloc (Obj.cells #[.string (sb who), .bool em, .slice A0 R0.length c0] 42)=w0 at HBX HB0
 generalize hW:World.alloc _ _=W'
 obtain rfl:w0=W':=hW0.symm.trans hW
 clear hW hW0
 have HBC:=Lib.hid (fun W (q:Below w0.heap.size w0 W)=> show W.cell? ⟨w.heap.size,0,none⟩=some (.string (sb who))∧W.cell? ⟨w.heap.size,1,none⟩=some (.bool em)∧W.cell? ⟨w.heap.size,2,none⟩=some (.slice A0 R0.length c0)from by
  have r:=HBX.out.below q HBX.out.lt
  exact ⟨r.cell (i:=0) rfl,r.cell (i:=1) rfl,r.cell (i:=2) rfl⟩)
 clear HBX
 obtain ⟨x0, -,x2⟩:=HBC.out w0 (Below.refl _ _)
 have HX0:=Lib.hid (show RowAt w.heap.size w0 A0 A0 R0.length c0 R0 from ⟨HV.out w0 HB0.out, .inl rfl⟩)
 have B0:=Lib.hid (Below.refl w0.heap.size w0)
 by_cases hw:who=[]
 ·subst hw
  have HR:Hid (R=if em=true then setA R0 emptyK [⟨1,[],[],0⟩] else R0):=HR
  change w0.cell? _=some (.string ⟨#[]⟩)at x0
  go_upto_region 4 with fail
  clear x0 x2
  have HSX:=Lib.hid (show Short 1048576 R0 from HS.out)
  obtain ⟨-,x1, -⟩:=HBC.out w0 B0.out
  cases em with
  | false=>
   have HRR:Hid (R=R0):=HR
   clear HR HSX HTV
   go_wp2_with fail
   go_ret
   have e:R=R0:=HRR.out
   rw [e]
   exact ⟨A0,c0,rfl,Lib.hid ⟨HX0.out,HB0.out.trans (B0.out.mono HB0.out.size)⟩⟩
  | true=>
   have HRR:Hid (R=setA R0 emptyK [⟨1,[],[],0⟩]):=HR
   clear HR HTV
   have HOW:=Lib.hid (own_laid w0 ⟨1,[],[],0⟩)
   have HBW:=Lib.hid (below_alloc w0 (.cells #[.int .i64 1, .string ⟨#[]⟩, .string ⟨#[]⟩, .int .i64 0] 72))
   change Hid (OwnVals (w0.alloc (.cells #[.int .i64 1, .string ⟨#[]⟩, .string ⟨#[]⟩, .int .i64 0] 72)) _ _ _)at HOW
   go_wp2_with (with_reducible refine jo_build1 rfl _ rfl 1 ⟨#[]⟩ ⟨#[]⟩ 0 rfl ?_)
   obtain ⟨Av,cv,e1,hvv, -⟩:=HOW.out.vals
   simp only [Value.slice.injEq]at e1
   obtain ⟨rfl, -,rfl⟩:=e1
   refine (show Calls _ _ #[_, .string ⟨#[101,109,112,116,121,95,108,97,121,101,114]⟩,_] _ _ from own_any rfl (jo_rset _ A0 R0.length c0 R0 (HX0.out.vals.below HBW.out) (by omega) (short_more HSX.out (by decide)) (some ⟨w0.heap.size,0,none⟩) 1 1 [⟨1,[],[],0⟩] hvv (by decide) (short_oneC (Nat.zero_le _) (Nat.zero_le _)) emptyK (by decide))).mono ?_
   rintro e w9 ⟨A9,c9,rfl,H9⟩
   have B9:=HBW.out.trans (H9.out.2.2.mono HBW.out.size)
   go_wp2_with fail
   go_ret
   rw [HRR.out]
   refine ⟨A9,c9,rfl,Lib.hid ⟨⟨H9.out.2.1, .inr (fun b o e=> ?_)⟩,HB0.out.trans ((B0.out.trans (B9.mono B0.out.size)).mono HB0.out.size)⟩⟩
   have:=H9.out.1.block (show (Value.slice A9 _ c9).ownBlock=some b from by rw [e];rfl)
   have h1:=HB0.out.size
   have h2:=B0.out.size
   have h3:=HBW.out.size
   exact ⟨by omega,this.2⟩
 ·have hb:(sb who).toList.isEmpty=false:=by
   rw [sb_list]
   match who,hw with
   | [],hw=> exact absurd rfl hw
   | _::_,_=> rfl
  have HR:Hid (R=if em=true then setA (setA R0 byK [⟨4,[],who,0⟩]) emptyK [⟨1,[],[],0⟩] else setA R0 byK [⟨4,[],who,0⟩]):=Lib.hid (by rw [HR.out,if_neg hw])
  generalize hsw:sb who=sw at*
  have HSW:=Lib.hid hsw
  clear hsw hw
  go_upto_region 3 with fail
  go_wp2_with fail
  refine (HTV.out w0).mono ?_
  rintro e w2 ⟨A2,c2,rfl,H2⟩
  have B2:=Lib.hid (B0.out.trans (H2.out.2.2.mono B0.out.size))
  have HV2:=Lib.hid H2.out.2.1
  have HX2:=Lib.hid (HX0.out.vals.below H2.out.2.2)
  clear H2 B0 HX0 hb x0 x2
  have HWS:=Lib.hid (show Short 1048576 [(⟨4,[],who,0⟩:V)]from short_oneC (Nat.zero_le _) (by show who.length≤1048576;omega))
  go_wp2_with fail
  refine (show Calls _ _ #[_, .string ⟨#[99,114,101,97,116,101,100,95,98,121]⟩,_] _ _ from own_any rfl (jo_rset w2 A0 R0.length c0 R0 HX2.out (by omega) (short_more HS.out (by decide)) A2 1 c2 [⟨4,[],who,0⟩] HV2.out (by decide) (short_more HWS.out (by decide)) byK (by decide))).mono ?_
  rintro e w3 ⟨A3,c3,rfl,H3⟩
  have B3:=Lib.hid (B2.out.trans (H3.out.2.2.mono B2.out.size))
  have hx3:=setA_fewC R0 [⟨4,[],who,0⟩] byK
  have HS3:=Lib.hid (show Short 1048576 (setA R0 byK [⟨4,[],who,0⟩])from short_setA HS.out HWS.out (by decide))
  have HX3:=Lib.hid (show RowAt w.heap.size w3 A0 A3 (setA R0 byK [⟨4,[],who,0⟩]).length c3 (setA R0 byK [⟨4,[],who,0⟩])from ⟨H3.out.2.1, .inr (fun b o e=> by
   have:=H3.out.1.block (show (Value.slice A3 _ c3).ownBlock=some b from by rw [e];rfl)
   have h1:=HB0.out.size
   have h2:=B2.out.size
   exact ⟨by omega,this.2⟩)⟩)
  clear B2 H3 HV2 HX2 HWS HS
  generalize setA R0 byK [⟨4,[],who,0⟩]=X3 at*
  go_upto_region 4 with fail
  have HSX:=Lib.hid (show Short 1048576 X3 from HS3.out)
  obtain ⟨-,x1, -⟩:=HBC.out w3 B3.out
  cases em with
  | false=>
   have HRR:Hid (R=X3):=HR
   clear HR HSX HTV
   go_wp2_with fail
   go_ret
   have e:R=X3:=HRR.out
   rw [e]
   exact ⟨A3,c3,rfl,Lib.hid ⟨HX3.out,HB0.out.trans (B3.out.mono HB0.out.size)⟩⟩
  | true=>
   have HRR:Hid (R=setA X3 emptyK [⟨1,[],[],0⟩]):=HR
   clear HR HTV
   have HOW:=Lib.hid (own_laid w3 ⟨1,[],[],0⟩)
   have HBW:=Lib.hid (below_alloc w3 (.cells #[.int .i64 1, .string ⟨#[]⟩, .string ⟨#[]⟩, .int .i64 0] 72))
   change Hid (OwnVals (w3.alloc (.cells #[.int .i64 1, .string ⟨#[]⟩, .string ⟨#[]⟩, .int .i64 0] 72)) _ _ _)at HOW
   go_wp2_with (with_reducible refine jo_build1 rfl _ rfl 1 ⟨#[]⟩ ⟨#[]⟩ 0 rfl ?_)
   obtain ⟨Av,cv,e1,hvv, -⟩:=HOW.out.vals
   simp only [Value.slice.injEq]at e1
   obtain ⟨rfl, -,rfl⟩:=e1
   refine (show Calls _ _ #[_, .string ⟨#[101,109,112,116,121,95,108,97,121,101,114]⟩,_] _ _ from own_any rfl (jo_rset _ A3 X3.length c3 X3 (HX3.out.vals.below HBW.out) (by omega) (short_more HSX.out (by decide)) (some ⟨w3.heap.size,0,none⟩) 1 1 [⟨1,[],[],0⟩] hvv (by decide) (short_oneC (Nat.zero_le _) (Nat.zero_le _)) emptyK (by decide))).mono ?_
   rintro e w9 ⟨A9,c9,rfl,H9⟩
   have B9:=HBW.out.trans (H9.out.2.2.mono HBW.out.size)
   go_wp2_with fail
   go_ret
   rw [HRR.out]
   refine ⟨A9,c9,rfl,Lib.hid ⟨⟨H9.out.2.1, .inr (fun b o e=> ?_)⟩,HB0.out.trans ((B3.out.trans (B9.mono B3.out.size)).mono HB0.out.size)⟩⟩
   have:=H9.out.1.block (show (Value.slice A9 _ c9).ownBlock=some b from by rw [e];rfl)
   have h1:=HB0.out.size
   have h2:=B3.out.size
   have h3:=HBW.out.size
   exact ⟨by omega,this.2⟩
end Go.Proofs.YtgmangikcfakgaaGreatDoor
namespace Go.Proofs.YtgmangikcfakgaaGreatDoor
open Go.RowKit Sh Jt Js Jo
set_option maxRecDepth 100000
namespace Jo
theorem plain_at {L:List V} {a b:List UInt8} (hr:rightPF L=true) (h0:0 < L.length):plainF L a b=(decide (L[0].kind=6) && decide (getA L 0 a=none) && decide (getA L 0 b=none) && decide (sortA L=L)):=by
 unfold plainF isO
 rw [sort_yes hr,hr,Bool.true_and]
 match L,h0 with
 | v::r,_=> rfl
end Jo
set_option maxHeartbeats 8000000 in
theorem cf_rplain (w:World) (A:Option Addr) (n c:Nat) (L:List V) (hL:ValsAt w A n c L) (hn:n≤250000) (hs:Short 1000000000 L) (a b:List UInt8):
  Calls Tryz.prog 46 #[.slice A n c, .string (sb a), .string (sb b)] w fun e w'=> e= .returned (.bool (plainF L a b))∧Hid (Below w.heap.size w w'):=by
 have HRI:=Lib.hid (js_rRight w A n c L hL (by omega) hs)
 have HSO:=Lib.hid (fun W (q:Below w.heap.size w W)=> own_any (L:=sortA L) rfl (js_rsort W A n c L (hL.below q) hn hs))
 have HGA:=Lib.hid (fun W (q:Below w.heap.size w W)=> jo_rget W A n c L (hL.below q) hn hs 0 a)
 have HGB:=Lib.hid (fun W (q:Below w.heap.size w W)=> jo_rget W A n c L (hL.below q) hn hs 0 b)
 have HVC:=Lib.hid (fun W (q:Below w.heap.size w W)=> hL.below q)
 have hlen:=hL.len
 have pl0:plc none= -1:=rfl
 have pls:∀q:Nat,plc (some q)=(q:Int):=fun _=> rfl
 obtain ⟨R,hR⟩:∃R,R=plainF L a b:=⟨_,rfl⟩
 rw [←hR]
 have HR:=Lib.hid hR
 clear hL hR
 generalize sb a=sa at*
 generalize sb b=sB at*
 go_enter Tryz.func46,Tryz.ntmps46
 go_wp2_with fail
 refine HRI.out.mono ?_
 rintro e w2 ⟨rfl,B2⟩
 clear HRI
 cases hr:rightPF L with
 | false=>
  have HX:=Lib.hid (show R=false from by rw [HR.out];exact plain_no hr)
  clear HR hr HSO HGA HGB HVC
  go_wp2_with fail
  go_ret
  rw [HX.out]
  exact ⟨rfl,B2⟩
 | true=>
  have h0:=right_pos hr
  have HXX:Hid (R=(decide (L[0].kind=6) && decide (getA L 0 a=none) && decide (getA L 0 b=none) && decide (sortA L=L))):=Lib.hid (HR.out.trans (plain_at hr h0))
  have hs5:(sortA L).length≤5000:=by
   rw [sort_yes hr,(srt_srt hr).2.2]
   exact right_short hr
  obtain ⟨bb,o,rfl,hbl,_⟩:=(HVC.out w2 B2.out).at_ (by omega)
  have h00:(0:Int) < (n:Int):=by omega
  have HCK:=Lib.hid (fun W (q:Below w.heap.size w W)=> show W.cell? ⟨bb,o,none⟩=some (.int .i64 L[0].kind)from by
   have:=((HVC.out W q).cells h0).1
   rwa [Nat.zero_mul,Nat.add_zero]at this)
  clear HR hr
  go_wp2_with fail
  refine (HSO.out w2 B2.out).mono ?_
  rintro e w3 ⟨A3,c3,rfl,H3⟩
  have B3:=Lib.hid (B2.out.trans (H3.out.2.2.mono B2.out.size))
  have HV3:=Lib.hid H3.out.2.1
  clear B2 H3 HSO
  have HSA:=Lib.hid (js_same w3 A3 (some ⟨bb,o,none⟩) (sortA L).length c3 n c (sortA L) L HV3.out (HVC.out w3 B3.out) (by omega) (by omega))
  clear HV3
  generalize (sortA L).length=sn at*
  go_wp2_with fail
  refine HSA.out.mono ?_
  rintro e w4 ⟨rfl,m,rfl⟩
  have B4:=Lib.hid (below_drewN B3.out m)
  clear B3 HSA
  generalize w3.drewN m=w5 at*
  by_cases hq:sortA L=L
  case neg=>
   have HX:=Lib.hid (show R=false from by rw [HXX.out,decide_eq_false hq,Bool.and_false])
   rw [decide_eq_false hq]
   clear HXX HGA HGB HVC HCK
   go_wp2_with fail
   go_ret
   rw [HX.out]
   exact ⟨rfl,B4⟩
  rw [decide_eq_true hq]at HXX ⊢
  have c0:=HCK.out w5 B4.out
  by_cases h6:L[0].kind=6
  case neg=>
   have HX:=Lib.hid (show R=false from by rw [HXX.out,decide_eq_false h6];rfl)
   have cb:(L[0].kind==6)=false:=beq_eq_false_iff_ne.2 h6
   clear HXX HGA HGB HVC HCK h6 hq
   generalize L[0].kind=y0 at*
   go_wp2_with fail
   go_ret
   rw [HX.out]
   exact ⟨rfl,B4⟩
  rw [h6]at c0
  have HXY:Hid (R=(decide (getA L 0 a=none) && decide (getA L 0 b=none))):=Lib.hid (by rw [HXX.out,decide_eq_true h6,Bool.true_and,Bool.and_true])
  clear HXX h6 hq HCK
  go_wp2_with fail
  refine (HGA.out w5 B4.out).mono ?_
  rintro e w6 ⟨rfl,K6⟩
  have B6:=Lib.hid (B4.out.trans (K6.out.mono B4.out.size))
  clear B4 K6 HGA c0
  cases hga:getA L 0 a with
  | some p=>
   have HX:=Lib.hid (show R=false from by rw [HXY.out,hga];rfl)
   rw [pls]
   have hp0:¬(p:Int) < 0:=by omega
   clear HXY HGB HVC hga
   go_wp2_with fail
   go_ret
   rw [HX.out]
   exact ⟨rfl,B6⟩
  | none=>
   have HXZ:Hid (R=decide (getA L 0 b=none)):=Lib.hid (by rw [HXY.out,hga];rfl)
   rw [pl0]
   clear HXY hga
   go_wp2_with fail
   refine (HGB.out w6 B6.out).mono ?_
   rintro e w7 ⟨rfl,K7⟩
   have B7:=Lib.hid (B6.out.trans (K7.out.mono B6.out.size))
   clear B6 K7 HGB
   cases hgb:getA L 0 b with
   | some p=>
    have HX:=Lib.hid (show R=false from by rw [HXZ.out,hgb];rfl)
    rw [pls]
    have hp0:¬(p:Int) < 0:=by omega
    clear HXZ HVC hgb
    go_wp2_with fail
    go_ret
    rw [HX.out]
    exact ⟨by first | rfl | (congr 2),B7⟩
   | none=>
    have HX:=Lib.hid (show R=true from by rw [HXZ.out,hgb];rfl)
    rw [pl0]
    clear HXZ HVC hgb
    go_wp2_with fail
    go_ret
    rw [HX.out]
    exact ⟨rfl,B7⟩
end Go.Proofs.YtgmangikcfakgaaGreatDoor
