import Derived.Test.YtgmangikcfakgaaGreatDoorPB29
import Derived.Test.YtgmangikcfakgaaGreatDoorPB26
import Derived.BigQuiet
import Derived.Test.YtgmangikcfakgaaGreatDoorPB33
import Derived.Deep.RegionHeld3
namespace Go.Proofs.YtgmangikcfakgaaGreatDoor
open Go.RowKit Sh Jt Js Jo
set_option maxRecDepth 100000
set_option maxHeartbeats 8000000 in
theorem cf_rhists (w:World) (A:Option Addr) (n c:Nat) (E:Option Addr) (d:Nat) (P P2:List Pe) (hP:HistsAt w A n c P) (hQ:HistsAt w E n d P2) (hs:histsOf P=histsOf P2) (hn:n≤140737488355328) (hl:∀p∈P,p.rest.row.length≤140737488351232):
  Calls Tryz.prog 41 #[.slice A n c, .slice E n d] w fun e w'=> e= .returned (.bool true)∧∃m,w'=w.drewN m:=by
 have hlen:=hP.len
 have hlen2:=hQ.len
 have HP:=Lib.hid (fun k=> show HistsAt (w.drewN k) A n c P from hP.below (below_drewN (Below.refl _ _) k))
 have HQ:=Lib.hid (fun k=> show HistsAt (w.drewN k) E n d P2 from hQ.below (below_drewN (Below.refl _ _) k))
 have HEQ:=Lib.hid (fun j (h1:j < P.length) (h2:j < P2.length)=> show P[j].hist=P2[j].hist from by
  have:=congrArg (fun l=> l[j]?) hs
  simp only [histsOf,List.getElem?_map,List.getElem?_eq_getElem h1,List.getElem?_eq_getElem h2,Option.map_some,Option.some.injEq]at this
  exact this)
 have HL:=Lib.hid hl
 have HP0:=Lib.hid hP
 have HQ0:=Lib.hid hQ
 clear hP hQ hs hl
 go_enter Tryz.func41,Tryz.ntmps41
 go_wp2_with fail
 go_loopg [5] n (fun g v5 wx=> ∃j p:Nat,v5= .int .i64 (j:Int)∧j+g=n∧wx=w.drewN p)
 case atStart=> exact ⟨0,0,rfl,by omega,rfl⟩
 case round=>
  obtain ⟨j,p,rfl,hjg,rfl⟩:=hrel
  cases gk with
  | zero=>
   obtain rfl:j=n:=by omega
   have hge:¬(j:Int) < (j:Int):=by omega
   go_wp2_with fail
   go_ret
   exact ⟨rfl,p,rfl⟩
  | succ g=>
   have h1:j < P.length:=by omega
   have h2:j < P2.length:=by omega
   have HPW:=HP0.out
   have HQW:=HQ0.out
   obtain ⟨b,o,rfl,hb,_⟩:=HPW.at_ (by omega)
   obtain ⟨b2,o2,rfl,hb2,_⟩:=HQW.at_ (by omega)
   obtain ⟨x0,x1,x2⟩:=HPW.cells h1
   obtain ⟨y0,y1,y2⟩:=HQW.cells h2
   have he:=HEQ.out j h1 h2
   have hv1:=fun k=> (HP.out k).ins _ (List.getElem_mem h1)
   have hv2:=fun k=> (HQ.out k).ins _ (List.getElem_mem h2)
   have hll:=HL.out _ (List.getElem_mem h1)
   generalize P[j]=pe at*
   generalize P2[j]=pf at*
   obtain ⟨who,em,⟨PA,pc,pr⟩⟩:=pe
   obtain ⟨who2,em2,⟨PA2,pc2,pr2⟩⟩:=pf
   have he:Hist.mk who em pr=Hist.mk who2 em2 pr2:=he
   obtain ⟨rfl,rfl,rfl⟩:who=who2∧em=em2∧pr=pr2:=by
    simp only [Hist.mk.injEq]at he
    exact he
   change World.cell? _ _=some (.slice PA pr.length pc)at x2
   change World.cell? _ _=some (.slice PA2 pr.length pc2)at y2
   change World.cell? _ _=some (.string (sb who))at x0 y0
   change World.cell? _ _=some (.bool em)at x1 y1
   have HSM:=Lib.hid (fun k=> show Calls Tryz.prog 23 #[.slice PA pr.length pc, .slice PA2 pr.length pc2] (w.drewN (p+k)) fun e w'=> e= .returned (.bool true)∧∃m,w'=w.drewN (p+m)from
    (js_same (w.drewN (p+k)) PA PA2 pr.length pc pr.length pc2 pr pr (hv1 _) (hv2 _) hll hll).mono (fun e w' h=> ⟨by rw [h.1,decide_eq_true rfl],by
     obtain ⟨m,hm⟩:=h.2
     exact ⟨k+m,by rw [hm,World.drewN_drewN,Nat.add_assoc]⟩⟩))
   clear HPW HQW hv1 hv2 he hll h1 h2
   generalize sb who=S at*
   generalize pr.length=pl at*
   have hjn:(j:Int) < (n:Int):=by omega
   have hjp:(0:Int)≤(j:Int):=by omega
   go_upto_region 6 with fail
   go_quiet (first | (go_at_call 23;exact HSM.out _))
   rw [World.drewN_drewN]
   go_wp2_with fail
   go_roundg g
   case measure=> omega
   case rel=> exact ⟨j+1,p+nq,by go_num,by omega,rfl⟩
end Go.Proofs.YtgmangikcfakgaaGreatDoor
namespace Go.Proofs.YtgmangikcfakgaaGreatDoor
open Go.RowKit Sh Jt Js Jo
theorem arr_self14:∀(g:List UInt8),g.length=32→∀W:World,(Op.equalIn 10000 52 (.agg (g.map v8).toArray) (.agg (g.map v8).toArray)).run Tryz.prog W= .ok true W:=by
 intro g hg W
 have fa:(Value.agg (g.map v8).toArray).formed Tryz.prog 52=true:=by
  match g,hg with
  | [x0,x1,x2,x3,x4,x5,x6,x7,x8,x9,x10,x11,x12,x13,x14,x15,x16,x17,x18,x19,x20,x21,x22,x23,x24,x25,x26,x27,x28,x29,x30,x31],_=> exact formed32 _ _ _ _ _ _ _ _ _ _ _ _ _ _ _ _ _ _ _ _ _ _ _ _ _ _ _ _ _ _ _ _
 obtain ⟨r,hr,he⟩:=run_equalIn_deep (P:=Tryz.prog) 9997 3 52 key32 W 5 5 (.agg (g.map v8).toArray) (.agg (g.map v8).toArray) (litsOf g) (litsOf g) fa fa (lits_bytes g hg) (lits_bytes g hg)
 refine Eq.trans hr ?_
 rw [he.2 rfl]
set_option maxRecDepth 100000 in
set_option maxHeartbeats 1000000 in
theorem cf_rkeys (w:World) (A:Option Addr) (n c:Nat) (E:Option Addr) (d:Nat) (G:List (List UInt8)) (ha:GsAt w A n c G) (hb:GsAt w E n d G) (hn:n≤140737488355328):
  Calls Tryz.prog 40 #[.slice A n c, .slice E n d] w fun e w'=> e= .returned (.bool true)∧Hid (Kept w w' (fun _=> False)):=by
 have hlen:=ha.len
 have HA:=Lib.hid ha
 have HB:=Lib.hid hb
 clear ha hb
 go_enter Tryz.func40,Tryz.ntmps40
 go_wp2
 go_loopg [5] n (fun gg s5 wr=> ∃(k:Nat),s5= .int .i64 k∧k≤n∧gg=n - k∧Hid (Kept w wr (fun _=> False)))
 case atStart=> exact ⟨0,rfl,Nat.zero_le _,rfl,Kept.refl _ _⟩
 case round=>
  obtain ⟨k,rfl,hk,hg,KW⟩:=hrel
  by_cases hlt:k < n
  ·have hkl:k < G.length:=by omega
   obtain ⟨g1,o1,rfl,hl1,_⟩:=HA.out.at_ (by omega)
   obtain ⟨g2,o2,rfl,hl2,_⟩:=HB.out.at_ (by omega)
   have r1:=HA.out.one hkl
   have r2:=HB.out.one hkl
   have hg32:=HA.out.dig _ (List.getElem_mem hkl)
   have hDl:((G[k]).map v8).length=32:=by rw [List.length_map];exact hg32
   have hq:∀W,(Op.equalIn 10000 52 (.agg ((G[k]).map v8).toArray) (.agg ((G[k]).map v8).toArray)).run Tryz.prog W= .ok true W:=fun W=> arr_self14 _ hg32 W
   generalize (G[k]).map v8=D at*
   have HR1:=Lib.hid (fun (v:World) (hv:Kept w v (fun _=> False))=> (show v.rangeAt g1 (o1+k*32) D from fun q u hu=> hv.cell (r1 q u hu) (fun h=> h)))
   have HR2:=Lib.hid (fun (v:World) (hv:Kept w v (fun _=> False))=> (show v.rangeAt g2 (o2+k*32) D from fun q u hu=> hv.cell (r2 q u hu) (fun h=> h)))
   have hi:(Tryz.prog.info? 52).map (·.size)=some D.length:=by rw [hDl];kernel_rfl
   have HI:=Lib.hid hi
   have hu25:Tryz.prog.underlying 52=some (.array 32 5):=Tryz.underlying52
   have hki:(k:Int) < (n:Int):=by omega
   have HB0:=Lib.hid (show Kept w wr.drew (fun _=> False)from KW.out.drewN 1)
   clear r1 r2 hDl hi HA HB hg32 hkl
   go_wp2_with fail
   refine wp_region_held (S:=fun v=> Kept w v (fun _=> False)) (by kernel_rfl) ?_
   change wpAnyH _ _ _ _ _ _ _ _ (World.drew _)
   refine wpAnyH_take (i:=0) (v:= ?_) rfl (by kernel_rfl) (by kernel_rfl) (by kernel_rfl) (fun _ _ _ h=> h) (Or.inl ⟨by rfl, ?_⟩) HB0.out ?_
   rotate_left
   ·(intro v hv;go_simp <;> with_reducible rfl)
   simp only [List.getElem_toArray,List.getElem_cons_zero,Act.put,List.setIfInBounds_toArray,List.set_cons_zero,List.set_cons_succ]
   refine wpAnyH_take (i:=1) (v:= ?_) rfl (by kernel_rfl) (by kernel_rfl) (by kernel_rfl) (fun _ _ _ h=> h) (Or.inl ⟨by rfl, ?_⟩) HB0.out ?_
   rotate_left
   ·(intro v hv;go_simp <;> with_reducible rfl)
   simp only [List.getElem_toArray,List.getElem_cons_succ,List.getElem_cons_zero,Act.put,List.setIfInBounds_toArray,List.set_cons_zero,List.set_cons_succ]
   refine wpAnyH_take (i:=2) (v:= ?_) rfl (by kernel_rfl) (by kernel_rfl) (by kernel_rfl) (fun _ _ _ h=> h) (Or.inl ⟨by rfl, ?_⟩) HB0.out ?_
   rotate_left
   ·(intro v hv;go_simp <;> with_reducible rfl)
   simp only [List.getElem_toArray,List.getElem_cons_succ,List.getElem_cons_zero,Act.put,List.setIfInBounds_toArray,List.set_cons_zero,List.set_cons_succ]
   refine wpAnyH_take (i:=3) (v:= .agg D.toArray) rfl (by kernel_rfl) (by kernel_rfl) (by kernel_rfl) (fun _ _ _ h=> h) (yieldsIf_load_mid (by rfl) 52 (.tmp 19) (by rfl) g1 (o1+k*32) (by rfl) D (.array 32 5) (fun v hv=> HR1.out v hv) hu25 rfl HI.out) HB0.out ?_
   simp only [List.getElem_toArray,List.getElem_cons_succ,List.getElem_cons_zero,Act.put,List.setIfInBounds_toArray,List.set_cons_zero,List.set_cons_succ]
   refine wpAnyH_take (i:=4) (v:= ?_) rfl (by kernel_rfl) (by kernel_rfl) (by kernel_rfl) (fun _ _ _ h=> h) (Or.inl ⟨by rfl, ?_⟩) HB0.out ?_
   rotate_left
   ·(intro v hv;go_simp <;> with_reducible rfl)
   simp only [List.getElem_toArray,List.getElem_cons_succ,List.getElem_cons_zero,Act.put,List.setIfInBounds_toArray,List.set_cons_zero,List.set_cons_succ]
   refine wpAnyH_take (i:=5) (v:= ?_) rfl (by kernel_rfl) (by kernel_rfl) (by kernel_rfl) (fun _ _ _ h=> h) (Or.inl ⟨by rfl, ?_⟩) HB0.out ?_
   rotate_left
   ·(intro v hv;go_simp <;> with_reducible rfl)
   simp only [List.getElem_toArray,List.getElem_cons_succ,List.getElem_cons_zero,Act.put,List.setIfInBounds_toArray,List.set_cons_zero,List.set_cons_succ]
   refine wpAnyH_take (i:=6) (v:= ?_) rfl (by kernel_rfl) (by kernel_rfl) (by kernel_rfl) (fun _ _ _ h=> h) (Or.inl ⟨by rfl, ?_⟩) HB0.out ?_
   rotate_left
   ·(intro v hv;go_simp <;> with_reducible rfl)
   simp only [List.getElem_toArray,List.getElem_cons_succ,List.getElem_cons_zero,Act.put,List.setIfInBounds_toArray,List.set_cons_zero,List.set_cons_succ]
   refine wpAnyH_take (i:=7) (v:= .agg D.toArray) rfl (by kernel_rfl) (by kernel_rfl) (by kernel_rfl) (fun _ _ _ h=> h) (yieldsIf_load_mid (by rfl) 52 (.tmp 23) (by rfl) g2 (o2+k*32) (by rfl) D (.array 32 5) (fun v hv=> HR2.out v hv) hu25 rfl HI.out) HB0.out ?_
   simp only [List.getElem_toArray,List.getElem_cons_succ,List.getElem_cons_zero,Act.put,List.setIfInBounds_toArray,List.set_cons_zero,List.set_cons_succ]
   refine wpAnyH_take (i:=8) (v:= ?_) rfl (by kernel_rfl) (by kernel_rfl) (by kernel_rfl) (fun _ _ _ h=> h) (Or.inl ⟨by rfl, ?_⟩) HB0.out ?_
   rotate_left
   ·(intro v hv;go_simp <;> with_reducible rfl)
   simp only [List.getElem_toArray,List.getElem_cons_succ,List.getElem_cons_zero,Act.put,List.setIfInBounds_toArray,List.set_cons_zero,List.set_cons_succ]
   refine wpAnyH_done (by kernel_rfl) ?_ _
   go_wp2_with fail
   go_roundg (n - (k+1))
   case rel=> exact ⟨k+1,by go_num,by omega,rfl,HB0⟩
   case measure=> omega
  ·go_wp2_with fail
   go_ret
   exact ⟨rfl,KW⟩
end Go.Proofs.YtgmangikcfakgaaGreatDoor
namespace Go.Proofs.YtgmangikcfakgaaGreatDoor
open Go.RowKit Sh Jt Js Jo
set_option maxRecDepth 100000
set_option maxHeartbeats 8000000 in
theorem cf_same (w:World) (c:Cfg) (P P2:List Pe) (A1:Option Addr) (n1 c1:Nat) (A2:Option Addr) (n2 c2:Nat) (A3:Option Addr) (n3 c3:Nat) (E1:Option Addr) (d1:Nat) (E2:Option Addr) (d2:Nat) (E3:Option Addr) (d3:Nat)
  (hM:ConfIn w c P A1 n1 c1 A2 n2 c2 A3 n3 c3) (hN:ConfIn w c P2 E1 n1 d1 E2 n2 d2 E3 n3 d3) (hn1:n1≤140737488355328) (hn2:n2≤140737488355328) (hn3:n3≤140737488351232) (hl:∀h∈c.hist,h.rest.length≤140737488351232):
  Calls Tryz.prog 11 #[.agg #[.slice A1 n1 c1, .slice A2 n2 c2, .slice A3 n3 c3], .agg #[.slice E1 n1 d1, .slice E2 n2 d2, .slice E3 n3 d3]] w fun e w'=> e= .returned (.bool true)∧Hid (Below w.heap.size w w'):=by
 have HBL:=Lib.hid (show Below w.heap.size w ((w.alloc (.cells #[.slice A1 n1 c1, .slice A2 n2 c2, .slice A3 n3 c3] 28)).alloc (.cells #[.slice E1 n1 d1, .slice E2 n2 d2, .slice E3 n3 d3] 28))from (below_alloc w _).alloc (by simp) _)
 have HB1:=Lib.hid (show Row ((w.alloc (.cells #[.slice A1 n1 c1, .slice A2 n2 c2, .slice A3 n3 c3] 28)).alloc (.cells #[.slice E1 n1 d1, .slice E2 n2 d2, .slice E3 n3 d3] 28)) w.heap.size 28 [.slice A1 n1 c1, .slice A2 n2 c2, .slice A3 n3 c3]from (Row.new _ _ _).alloc _)
 have HB2:=Lib.hid (show Row ((w.alloc (.cells #[.slice A1 n1 c1, .slice A2 n2 c2, .slice A3 n3 c3] 28)).alloc (.cells #[.slice E1 n1 d1, .slice E2 n2 d2, .slice E3 n3 d3] 28)) (w.heap.size+1) 28 [.slice E1 n1 d1, .slice E2 n2 d2, .slice E3 n3 d3]from by
  have:=Row.new (w.alloc (.cells #[.slice A1 n1 c1, .slice A2 n2 c2, .slice A3 n3 c3] 28)) 28 [.slice E1 n1 d1, .slice E2 n2 d2, .slice E3 n3 d3]
  simpa using this)
 have HM:=Lib.hid (fun W (q:Below w.heap.size w W)=> hM.below q)
 have HN:=Lib.hid (fun W (q:Below w.heap.size w W)=> hN.below q)
 have hsame:histsOf P=histsOf P2:=hM.same.trans hN.same.symm
 have HSE:=Lib.hid hsame
 have HL:=Lib.hid (show ∀p∈P,p.rest.row.length≤140737488351232 from fun p hp=> hl p.hist (by rw [←hM.same];exact List.mem_map.2 ⟨p,hp,rfl⟩))
 clear hM hN hsame hl
 go_enter Tryz.func11,Tryz.ntmps11
 go_upto_region 1 with fail
 generalize (w.alloc (.cells #[.slice A1 n1 c1, .slice A2 n2 c2, .slice A3 n3 c3] 28)).alloc (.cells #[.slice E1 n1 d1, .slice E2 n2 d2, .slice E3 n3 d3] 28)=w0 at*
 have HK:=Lib.hid (fun W (q:Below w0.heap.size w0 W)=> show W.cell? ⟨w.heap.size,0,none⟩=some (.slice A1 n1 c1)∧W.cell? ⟨w.heap.size,1,none⟩=some (.slice A2 n2 c2)∧W.cell? ⟨w.heap.size,2,none⟩=some (.slice A3 n3 c3)∧W.cell? ⟨w.heap.size+1,0,none⟩=some (.slice E1 n1 d1)∧W.cell? ⟨w.heap.size+1,1,none⟩=some (.slice E2 n2 d2)∧W.cell? ⟨w.heap.size+1,2,none⟩=some (.slice E3 n3 d3)from by
  have r:=HB1.out.below q HB1.out.lt
  have s:=HB2.out.below q HB2.out.lt
  exact ⟨r.cell (i:=0) rfl,r.cell (i:=1) rfl,r.cell (i:=2) rfl,s.cell (i:=0) rfl,s.cell (i:=1) rfl,s.cell (i:=2) rfl⟩)
 clear HB1 HB2
 have HBB:=Lib.hid (fun W (q:Below w0.heap.size w0 W)=> show Below w.heap.size w W from HBL.out.trans (q.mono HBL.out.size))
 have B0:=Lib.hid (Below.refl w0.heap.size w0)
 obtain ⟨x0,x1,x2,y0,y1,y2⟩:=HK.out w0 B0.out
 go_wp2_with fail
 refine (cf_rkeys w0 A1 n1 c1 E1 d1 c.ids (HM.out w0 (HBB.out w0 B0.out)).ids (HN.out w0 (HBB.out w0 B0.out)).ids hn1).mono ?_
 rintro e w1 ⟨rfl,K1⟩
 have B1:=Lib.hid (B0.out.trans ((below_of_kept K1.out (Nat.le_refl _) (fun _ _ h=> h)).mono B0.out.size))
 clear B0 K1 x0 x1 x2 y0 y1 y2
 obtain ⟨x0,x1,x2,y0,y1,y2⟩:=HK.out w1 B1.out
 go_wp2_with fail
 refine (cf_rhists w1 A2 n2 c2 E2 d2 P P2 (HM.out w1 (HBB.out w1 B1.out)).hist (HN.out w1 (HBB.out w1 B1.out)).hist HSE.out hn2 HL.out).mono ?_
 rintro e w2 ⟨rfl,m,rfl⟩
 have B2:=Lib.hid (below_drewN B1.out m)
 clear B1 x0 x1 x2 y0 y1 y2
 generalize w1.drewN m=w2 at*
 obtain ⟨x0,x1,x2,y0,y1,y2⟩:=HK.out w2 B2.out
 have HSM:=Lib.hid (js_same w2 A3 E3 n3 c3 n3 d3 c.rest c.rest (HM.out w2 (HBB.out w2 B2.out)).rest (HN.out w2 (HBB.out w2 B2.out)).rest hn3 hn3)
 rw [decide_eq_true rfl]at HSM
 go_wp2_with fail
 refine HSM.out.mono ?_
 rintro e w3 ⟨rfl,q,rfl⟩
 go_wp2_with fail
 go_ret
 exact ⟨rfl,Lib.hid (HBB.out _ (below_drewN B2.out q))⟩
end Go.Proofs.YtgmangikcfakgaaGreatDoor
