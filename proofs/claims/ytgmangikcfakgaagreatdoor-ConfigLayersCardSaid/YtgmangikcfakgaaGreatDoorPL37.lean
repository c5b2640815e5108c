import Derived.Test.YtgmangikcfakgaaGreatDoorPL36
import Derived.Test.YtgmangikcfakgaaGreatDoorPL3
import Derived.Test.YtgmangikcfakgaaGreatDoorPL27
namespace Go.Proofs.YtgmangikcfakgaaGreatDoor
open Go.RowKit Sh Jt Js
def SrtPost (w:World) (B:Nat) (val:Value) (R:List V) (e:Ending) (w':World):Prop:=∃val',e= .returned val'∧OwnVals w' B val' R∧Stq w w' val val'
structure SS (w:World) (B b:Nat) (A:Option Addr) (n:Nat) (Q:List Pt) (val:Value) (wx:World) (vx:Value) (R:List V):Prop where
 own:OwnVals wx B vx R
 step:Stq w wx val vx
 rows:RowsAt wx 0 b A n Q
 dis:Dis wx b A n vx
theorem SS.next {w:World} {B b:Nat} {A:Option Addr} {n:Nat} {Q:List Pt} {val:Value} {wx wy:World} {vx vy:Value} {R R':List V} (h:SS w B b A n Q val wx vx R) (o:OwnVals wy B vy R') (k:Stq wx wy vx vy):SS w B b A n Q val wy vy R':=
 ⟨o,h.step.trans k,h.rows.stq k h.dis,h.dis.stq k⟩
def SortP (m:Nat):Prop:=∀(f d:Nat) (ob:Bool) (v:V) (l:List V) (t:List UInt8) (w:World) (B b o c:Nat) (val:Value) (R:List V),d+m=50→One d ob v l t→(v::l).length≤f→ValsAt w (some ⟨b,o,none⟩) (v::l).length c (v::l)→
 b < w.heap.size→(∀k,val.ownBlock=some k→k≠b)→OwnVals w B val R→B≤w.heap.size→(v::l).length≤5000→R.length+(v::l).length≤1000000→
 Calls Tryz.prog 51 #[val, .slice (some ⟨b,o,none⟩) (v::l).length c] w (SrtPost w B val (R++sortF f (v::l)))
theorem sort_part {m f d:Nat} {ob:Bool} {v:V} {l:List V} {t:List UInt8} (ih:SortP m) (hd:d+(m+1)=50) (h1:One d ob v l t) (hl:(v::l).length≤5000) (hf:(v::l).length≤f+1) (Q:List Pt) (hQ:Q.map (·.row)=ordP v l) (b B:Nat) (R0:List V) (hR0:R0.length+(v::l).length≤1000000) (j:Nat) (hj:j < Q.length)
  (w:World) (val:Value) (hb:b < w.heap.size) (hne:∀k,val.ownBlock=some k→k≠b) (ho:OwnVals w B val (R0++v::((ordP v l).take j |>.map (sortF f)).flatten)) (hB:B≤w.heap.size) (hp:PtIn w b Q[j]):
  Calls Tryz.prog 51 #[val,Q[j].enc b] w (SrtPost w B val (R0++v::((ordP v l).take (j+1) |>.map (sortF f)).flatten)):=by
 obtain ⟨s1,s2,s3,_⟩:=sort_ordP (f:=f) h1 (by rw [List.length_cons]at hf;omega)
 have hj2:j < (ordP v l).length:=by rw [←hQ,List.length_map];exact hj
 have er:Q[j].row=(ordP v l)[j]:=by
  have:(Q.map (·.row))[j]'(by rw [List.length_map];exact hj)=(ordP v l)[j]:=by simp only [hQ]
  rw [List.getElem_map]at this
  exact this
 obtain ⟨v2,l2,t2,e2,o2,le2⟩:=part_one h1 _ ((ordP_perm v l).mem_iff.1 (List.getElem_mem hj2))
 have hsum:=sort_sum (f:=f) (ordP v l) j hj2 s2
 rw [s3]at hsum
 have hfin:R0++v::((ordP v l).take (j+1) |>.map (sortF f)).flatten=(R0++v::((ordP v l).take j |>.map (sortF f)).flatten)++sortF f (v2::l2):=by
  rw [List.take_succ_eq_append_getElem hj2,List.map_append,List.flatten_append,e2]
  simp
 rw [hfin]
 rw [e2]at hsum le2
 have hp2:=hp.2
 rw [er,e2]at hp2
 unfold Pt.enc
 rw [er,e2]
 rw [List.length_cons]at hl hf hR0
 refine ih f (d+1) (isObj v) v2 l2 t2 w B b _ _ val _ (by omega) o2 (by omega) hp2 hb hne ho hB (by omega) ?_
 rw [List.length_append,List.length_cons]
 omega
theorem SS.push {w:World} {B b:Nat} {A:Option Addr} {n:Nat} {Q:List Pt} {val:Value} {w3 w4:World} {v3 v4:Value} {R R':List V} {ob:Obj} (h:SS w B b A n Q val w3 v3 R) (h1:OwnVals w4 B v4 R') (h2:Kept (w3.alloc ob) w4 (fun k=> B≤k∧v3.ownBlock=some k)) (h3:∀k,v4.ownBlock=some k→v3.ownBlock=some k∨(w3.alloc ob).heap.size≤k):SS w B b A n Q val w4 v4 R':=
 h.next h1 ((Stq.of_below (below_alloc' w3 ob) v3).trans ⟨h2.mono (fun _ _ hk=> hk.2),h3⟩)
theorem SS.start {w w2:World} {B b:Nat} {A:Option Addr} {n:Nat} {Q:List Pt} {val:Value} {R:List V} (ho:OwnVals w B val R) (hb:b < w.heap.size) (hne:∀k,val.ownBlock=some k→k≠b) (k:Below w.heap.size w w2) (hr:RowsAt w2 w.heap.size b A n Q):SS w B b A n Q val w2 val R:=
 ⟨ho.below k,Stq.of_below k val,hr.mono (Nat.zero_le _),Nat.lt_of_lt_of_le hb k.size,hne,fun h0 g hg=> by
  obtain ⟨g2,e2,h2,r2⟩:=hr.at_ h0
  rw [hg]at e2
  simp only [Option.some.injEq,Addr.mk.injEq]at e2
  obtain ⟨e2,_⟩:=e2
  refine ⟨by rw [e2];exact r2.lt,fun i hi=> ?_⟩
  have:=(ho.block hi).2
  omega⟩
set_option maxRecDepth 100000 in
set_option maxHeartbeats 8000000 in
theorem js_addSorted:∀m,SortP m:=by
 intro m
 induction m with
 | zero=>
  intro f d ob v l t w B b o c val R hd h1
  have:=h1.deep
  omega
 | succ m ih=>
  intro f d ob v l t w B b o c val R hd h1 hf hL hb hne ho hB hl hlen
  obtain ⟨f,rfl⟩:∃g,f=g+1:=⟨f - 1,by rw [List.length_cons]at hf;omega⟩
  have he:=own_endP h1
  obtain ⟨s1,s2,s3,s4⟩:=sort_ordP (f:=f) h1 (by rw [List.length_cons]at hf;omega)
  obtain ⟨c0,c1,c2,c3⟩:=hL.head
  have hn0:(0:Int) < ((v::l).length:Int):=by rw [List.length_cons];omega
  have hn9:(v::l).length≤250000:=by omega
  have HRW:=Lib.hid (js_rowsA w b o (v::l).length c v l hL hn9 (own_ends he).1)
  have HPART:=Lib.hid (fun (Q:List Pt) (hQ:Q.map (·.row)=ordP v l)=> sort_part ih hd h1 hl hf Q hQ)
  have HOL:=Lib.hid (show (ordP v l).length≤250000 from by
   have h4:=(ordP_perm v l).length_eq
   have h5:=own_many he
   have h6:=hl
   rw [List.length_cons]at h6
   omega)
  have HPR:=Lib.hid (show (ptsOf o c (ownParts v l)).map (·.row)=ownParts v l from pts_row o c _)
  have HL:=Lib.hid (fun wx (k:Stq w wx val val)=> (hL.stq k hne).head)
  have HLB:=Lib.hid (fun wx (k:Below w.heap.size w wx)=> show PtIn wx b ⟨o,c,v::l⟩from ⟨Nat.succ_pos _,hL.below k⟩)
  have HST:=Lib.hid (fun A n Q w2 (k:Below w.heap.size w w2) (hr:RowsAt w2 w.heap.size b A n Q)=> SS.start (B:=B) (val:=val) (R:=R) ho hb hne k hr)
  have HBO:=Lib.hid (fun k hk=> (ho.block (k:=k) hk))
  rw [s1]
  by_cases hk:v.kind=6
  ·have hob:isObj v=true:=by unfold isObj;rw [hk];rfl
   have HG:=Lib.hid (show grp v=true by unfold grp;rw [hk];rfl)
   have HQL:=Lib.hid (show (ptsOf o c (ownParts v l)).length=(ordP v l).length by rw [pts_len,(ordP_perm v l).length_eq])
   have HORD:=Lib.hid (fun (Q2:List Pt) (hp:Q2.Perm (ptsOf o c (ownParts v l))) (hs:Q2.Pairwise fun p q=> ltF (ptKey q) (ptKey p)=false)=> show Q2.map (·.row)=ordP v l from by
    unfold ordP
    rw [if_pos hob]
    refine sorted_ord (by rw [←HPR.out];exact hp.map _) (s4 hob) ?_
    exact List.pairwise_map.2 hs)
   clear ih hL h1 hf ho hl he s1 s2 s3 s4 hob HPR
   generalize ptsOf o c (ownParts v l)=Q at*
   generalize ordP v l=O at*
   generalize (v::l).length=n at*
   generalize (⟨o,c,v::l⟩:Pt)=p0 at*
   obtain ⟨k,key,tx,z⟩:=v
   dsimp only at hk c0 c1 c2 c3 HL
   subst hk
   go_enter Tryz.func51,Tryz.ntmps51
   go_wp2_with fail
   refine HRW.out.mono ?_
   rintro e w2 ⟨A,m2,rfl,hA,HR2⟩
   obtain ⟨A,rfl⟩:∃a,A=some a:=by
    cases A with
    | none=> cases (hA rfl).2.symm.trans HG.out
    | some a=> exact ⟨a,rfl⟩
   obtain ⟨g1,g2,g3⟩:=HR2.out.2.2 A rfl
   generalize A.block=ga at g1 g2 g3
   subst g3
   have HS2:=Lib.hid (HST.out _ _ _ w2 HR2.out.2.1 HR2.out.1)
   obtain ⟨d0,d1,d2,d3⟩:=HL.out w2 HS2.out.step
   have hm2:m2≤1000000:=by
    have h1:=HOL.out
    have h2:=HR2.out.1.len
    have h3:=HQL.out
    omega
   have HSO:=Lib.hid (js_sort w2 w.heap.size b ga m2 Q HR2.out.1 g2 (by omega) p0 (HLB.out w2 HR2.out.2.1) (by omega))
   clear HRW c0 c1 c2 c3 hA
   go_wp2_with fail
   refine HSO.out.mono ?_
   rintro e w3 ⟨rfl,Q2,HP,HK⟩
   have HQ2:=Lib.hid (HORD.out Q2 HP.out.1 HP.out.2)
   have HS3:=Lib.hid (HST.out _ _ _ w3 (HR2.out.2.1.trans (HK.out.2.below HR2.out.2.1.size (fun k hk hh=> by omega))) HK.out.1)
   clear HSO HP HORD HR2 HK HS2 HST d0 d1 d2 d3 HLB
   obtain ⟨c0,c1,c2,c3⟩:=HL.out w3 HS3.out.step
   clear HL
   have hql:Q2.length=m2:=HS3.out.rows.len
   have HVA:Hid (ValsAt (w3.alloc (.cells #[.int .i64 6, .string (sb key), .string (sb tx), .int .i64 z] 72)) (some ⟨w3.heap.size,0,none⟩) 1 1 [⟨6,key,tx,z⟩]):=Lib.hid (ValsAt.lay (Row.new w3 72 (cellsV [⟨6,key,tx,z⟩])) 1 rfl)
   have HPT:=Lib.hid (HPART.out Q2 HQ2.out)
   have hOl:O.length=m2:=by rw [←HQ2.out,List.length_map,hql]
   have hB3:B≤w3.heap.size:=Nat.le_trans hB HS3.out.step.kept.size
   have hm9:m2≤1000000:=by
    have:=HOL.out
    omega
   clear HPART HQ2
   go_wp2_with (first
    | (with_reducible refine build_val1 rfl _ rfl 6 (sb key) (sb tx) z rfl ?_)
    | (at_builtin;go_must (with_reducible refine append_vals rfl _ _ rfl B val R rfl (HS3.out.own.below (below_alloc w3 _)) ⟨w3.heap.size,0,none⟩ 1 1 [⟨6,key,tx,z⟩] rfl HVA.out (by omega) (by simp;omega) ?_;intro v4 w4 h1 h2 h3;have HS4:=Lib.hid (HS3.out.push h1.out h2.out h3.out);clear h1 h2 h3)))
   clear HVA HS3
   go_loopg [0,25] m2 (fun g vb vk wx=> ∃j:Nat,vk= .int .i64 (j:Int)∧j+g=m2∧Hid (SS w B b (some ⟨ga,0,none⟩) m2 Q2 val wx vb (R++⟨6,key,tx,z⟩::((O.take j).map (sortF f)).flatten)))
   case atStart=> exact ⟨0,rfl,by omega,Lib.hid HS4.out⟩
   case round=>
    obtain ⟨j,rfl,hjg,HX⟩:=hrel
    have hBx:B≤wr.heap.size:=Nat.le_trans hB HX.out.step.kept.size
    cases gk with
    | zero=>
     obtain rfl:j=m2:=by omega
     have hge:¬(j:Int) < (j:Int):=by omega
     have HF:=Lib.hid (show R++⟨6,key,tx,z⟩::((O.take j).map (sortF f)).flatten=R++⟨6,key,tx,z⟩::(O.map (sortF f)).flatten by rw [List.take_of_length_le (by omega)])
     rw [HF.out]at HX
     clear HPT HS4
     go_wp2_with fail
     go_ret
     exact ⟨_,rfl,HX.out.own,HX.out.step⟩
    | succ g=>
     have hj:j < Q2.length:=by omega
     obtain ⟨gb,e, -,rr⟩:=HX.out.rows.at_ (by omega)
     cases e
     have cc:wr.cell? ⟨ga,j,none⟩=some (Pt.enc b Q2[j]):=rr.cell (by rw [List.getElem?_map,List.getElem?_eq_getElem hj];rfl)
     have hjn:(j:Int) < (m2:Int):=by omega
     have HCC:=Lib.hid (HPT.out b B R hlen j hj wr u0 HX.out.dis.lt HX.out.dis.ne HX.out.own hBx (HX.out.rows.ins _ (List.getElem_mem hj)))
     unfold Pt.enc at cc HCC
     clear rr HS4 HPT
     generalize Q2[j]=q at*
     obtain ⟨o1,cp1,row1⟩:=q
     dsimp only at*
     generalize row1.length=rl at*
     go_wp2_with fail
     refine HCC.out.mono ?_
     rintro e w5 ⟨v5,rfl,P1,P2⟩
     have HN:=Lib.hid (HX.out.next P1 P2)
     clear P1 P2 HCC cc
     go_wp2_with fail
     go_roundg g
     case measure=> omega
     case rel=> exact ⟨j+1,by go_num,by omega,HN⟩
  ·have hkb:(v.kind==6)=false:=beq_eq_false_iff_ne.2 hk
   have hob:¬isObj v=true:=fun h=> hk (of_decide_eq_true h)
   have HORD:=Lib.hid (show (ptsOf o c (ownParts v l)).map (·.row)=ordP v l from by
    unfold ordP
    rw [if_neg hob]
    exact HPR.out)
   clear ih hL h1 hf ho hl he s1 s2 s3 s4 hob HPR HLB
   generalize ptsOf o c (ownParts v l)=Q2 at*
   generalize ordP v l=O at*
   generalize (v::l).length=n at*
   obtain ⟨k,key,tx,z⟩:=v
   dsimp only at hk hkb c0 c1 c2 c3 HL
   go_enter Tryz.func51,Tryz.ntmps51
   go_wp2_with fail
   refine HRW.out.mono ?_
   rintro e w3 ⟨A,m2,rfl,hA,HR2⟩
   have HQ2:=HORD
   have HS3:=Lib.hid (HST.out _ _ _ w3 HR2.out.2.1 HR2.out.1)
   clear HRW c0 c1 c2 c3 hA HR2 HORD HST
   obtain ⟨c0,c1,c2,c3⟩:=HL.out w3 HS3.out.step
   clear HL
   have hql:Q2.length=m2:=HS3.out.rows.len
   have HVA:Hid (ValsAt (w3.alloc (.cells #[.int .i64 k, .string (sb key), .string (sb tx), .int .i64 z] 72)) (some ⟨w3.heap.size,0,none⟩) 1 1 [⟨k,key,tx,z⟩]):=Lib.hid (ValsAt.lay (Row.new w3 72 (cellsV [⟨k,key,tx,z⟩])) 1 rfl)
   have HPT:=Lib.hid (HPART.out Q2 HQ2.out)
   have hOl:O.length=m2:=by rw [←HQ2.out,List.length_map,hql]
   have hB3:B≤w3.heap.size:=Nat.le_trans hB HS3.out.step.kept.size
   have hm9:m2≤1000000:=by
    have:=HOL.out
    omega
   clear HPART HQ2
   go_wp2_with (first
    | (with_reducible refine build_val1 rfl _ rfl k (sb key) (sb tx) z rfl ?_)
    | (at_builtin;go_must (with_reducible refine append_vals rfl _ _ rfl B val R rfl (HS3.out.own.below (below_alloc w3 _)) ⟨w3.heap.size,0,none⟩ 1 1 [⟨k,key,tx,z⟩] rfl HVA.out (by omega) (by simp;omega) ?_;intro v4 w4 h1 h2 h3;have HS4:=Lib.hid (HS3.out.push h1.out h2.out h3.out);clear h1 h2 h3)))
   clear HVA HS3
   go_loopg [0,25] m2 (fun g vb vk wx=> ∃j:Nat,vk= .int .i64 (j:Int)∧j+g=m2∧Hid (SS w B b A m2 Q2 val wx vb (R++⟨k,key,tx,z⟩::((O.take j).map (sortF f)).flatten)))
   case atStart=> exact ⟨0,rfl,by omega,Lib.hid HS4.out⟩
   case round=>
    obtain ⟨j,rfl,hjg,HX⟩:=hrel
    have hBx:B≤wr.heap.size:=Nat.le_trans hB HX.out.step.kept.size
    cases gk with
    | zero=>
     obtain rfl:j=m2:=by omega
     have hge:¬(j:Int) < (j:Int):=by omega
     have HF:=Lib.hid (show R++⟨k,key,tx,z⟩::((O.take j).map (sortF f)).flatten=R++⟨k,key,tx,z⟩::(O.map (sortF f)).flatten by rw [List.take_of_length_le (by omega)])
     rw [HF.out]at HX
     clear HPT HS4
     go_wp2_with fail
     go_ret
     exact ⟨_,rfl,HX.out.own,HX.out.step⟩
    | succ g=>
     have hj:j < Q2.length:=by omega
     obtain ⟨gb,e, -,rr⟩:=HX.out.rows.at_ (by omega)
     cases e
     have cc:wr.cell? ⟨gb,j,none⟩=some (Pt.enc b Q2[j]):=rr.cell (by rw [List.getElem?_map,List.getElem?_eq_getElem hj];rfl)
     have hjn:(j:Int) < (m2:Int):=by omega
     have HCC:=Lib.hid (HPT.out b B R hlen j hj wr u0 HX.out.dis.lt HX.out.dis.ne HX.out.own hBx (HX.out.rows.ins _ (List.getElem_mem hj)))
     unfold Pt.enc at cc HCC
     clear rr HS4 HPT
     generalize Q2[j]=q at*
     obtain ⟨o1,cp1,row1⟩:=q
     dsimp only at*
     generalize row1.length=rl at*
     go_wp2_with fail
     refine HCC.out.mono ?_
     rintro e w5 ⟨v5,rfl,P1,P2⟩
     have HN:=Lib.hid (HX.out.next P1 P2)
     clear P1 P2 HCC cc
     go_wp2_with fail
     go_roundg g
     case measure=> omega
     case rel=> exact ⟨j+1,by go_num,by omega,HN⟩
theorem js_sortRow (w:World) (A:Option Addr) (n c:Nat) (L:List V) (hL:ValsAt w A n c L) (hn:n≤250000) (hs:Short 1000000000 L) (hT:TabOk w):
  Calls Tryz.prog 21 #[.slice A n c] w fun e w'=> ∃val,e= .returned val∧Hid (OwnVals w' w.heap.size val (if rightPF L=true then sortF L.length L else [])∧Below w.heap.size w w'):=by
 have hlen:=hL.len
 have HR:=Lib.hid (js_right w A n c L hL hn hs hT)
 by_cases hr:rightPF L=true
 ·rw [if_pos hr]
  rw [hr]at HR
  obtain ⟨t,ht⟩:=(prog_is L).1 hr
  have h5:=ht.1
  obtain ⟨v,r,t1,rfl,hone,rfl⟩:=row_one' ht
  obtain ⟨b,o,rfl,hb,_⟩:=hL.at_ (by rw [←hlen,List.length_cons];omega)
  have HA:=Lib.hid (fun W (k:Below w.heap.size w W)=> js_addSorted 50 (v::r).length 0 false v r t1 W w.heap.size b o c (.slice none 0 0) [] rfl hone (Nat.le_refl _) (by rw [hlen];exact hL.below k) (Nat.lt_of_lt_of_le hb k.size) (fun _ h=> by cases h) (OwnVals.nil _ _) k.size h5 (by
   show 0+_≤_
   omega))
  rw [List.nil_append,hlen]at HA
  rw [hlen]
  clear hL hs hT ht hone hr
  generalize sortF n (v::r)=SL at*
  go_enter Tryz.func21,Tryz.ntmps21
  go_wp2_with fail
  refine HR.out.mono ?_
  rintro e w2 ⟨rfl,HB⟩
  have HAA:=Lib.hid (HA.out w2 HB.out)
  clear HR HA
  go_wp2_with fail
  refine HAA.out.mono ?_
  rintro e w3 ⟨v3,rfl,P1,P2⟩
  have HX:=Lib.hid (And.intro P1 (HB.out.trans (P2.below HB.out.size (fun k hk=> by cases hk))))
  clear P1 P2 HAA
  go_wp2_with fail
  go_ret
  exact ⟨v3,rfl,HX⟩
 ·rw [if_neg hr]
  rw [Bool.not_eq_true]at hr
  rw [hr]at HR
  clear hL hs hT hr
  go_enter Tryz.func21,Tryz.ntmps21
  go_wp2_with fail
  refine HR.out.mono ?_
  rintro e w2 ⟨rfl,HB⟩
  clear HR
  go_wp2_with fail
  go_ret
  exact ⟨.slice none 0 0,rfl,Lib.hid ⟨OwnVals.nil _ _,HB.out⟩⟩
end Go.Proofs.YtgmangikcfakgaaGreatDoor
