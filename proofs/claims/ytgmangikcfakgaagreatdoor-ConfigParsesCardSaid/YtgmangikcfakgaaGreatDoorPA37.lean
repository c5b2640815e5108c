import Derived.Test.YtgmangikcfakgaaGreatDoorPA36
import Derived.Test.YtgmangikcfakgaaGreatDoorPA35
set_option maxRecDepth 100000
set_option maxHeartbeats 40000000
namespace Go.Proofs.YtgmangikcfakgaaGreatDoor
open Go.RowKit Sh Jt Js
def SrtPost (w:World) (B:Nat) (val:Value) (R:List V) (e:Ending) (w':World):Prop:=∃val',e= .returned val'∧OwnVals w' B val' R∧Stq w w' val val'
structure SS (w:World) (B b:Nat) (A:Option Addr) (n:Nat) (Q:List Pt) (val:Value) (wx:World) (vx:Value) (R:List V):Prop where
 own:OwnVals wx B vx R
 step:Stq w wx val vx
 rows:RowsAt wx 0 b A n Q
 dis:Dis wx b A n vx
theorem SS.next {w:World} {B b:Nat} {A:Option Addr} {n:Nat} {Q:List Pt} {val:Value} {wx wy:World} {vx vy:Value} {R R':List V} (h:SS w B b A n Q val wx vx R) (o:OwnVals wy B vy R') (k:Stq wx wy vx vy):SS w B b A n Q val wy vy R':=
 ⟨o,h.step.trans k,h.rows.stq k h.dis,h.dis.stq k⟩
def SortP (m:Nat):Prop:=∀(f d:Nat) (ob:Bool) (v:V) (l:List V) (t:List UInt8) (w:World) (B b o c:Nat) (val:Value) (R:List V),d+m=50→One d ob v l t→(v::l).length≤f→ValsAt w (some ⟨b,o,none⟩) (v::l).length c (v::l)→
 b < w.heap.size→(∀k,val.ownBlock=some k→k≠b)→OwnVals w B val R→B≤w.heap.size→(v::l).length≤5000→R.length+(v::l).length≤1000000→
 Calls Tryz.prog 51 #[val, .slice (some ⟨b,o,none⟩) (v::l).length c] w (SrtPost w B val (R++sortF f (v::l)))
theorem qve {m f d:Nat} {ob:Bool} {v:V} {l:List V} {t:List UInt8} (ih:SortP m) (hd:d+(m+1)=50) (h1:One d ob v l t) (hl:(v::l).length≤5000) (hf:(v::l).length≤f+1) (Q:List Pt) (hQ:Q.map (·.row)=ordP v l) (b B:Nat) (R0:List V) (hR0:R0.length+(v::l).length≤1000000) (j:Nat) (hj:j < Q.length)
  (w:World) (val:Value) (hb:b < w.heap.size) (hne:∀k,val.ownBlock=some k→k≠b) (ho:OwnVals w B val (R0++v::((ordP v l).take j |>.map (sortF f)).flatten)) (hB:B≤w.heap.size) (hp:PtIn w b Q[j]):
  Calls Tryz.prog 51 #[val,Q[j].enc b] w (SrtPost w B val (R0++v::((ordP v l).take (j+1) |>.map (sortF f)).flatten)):=by
 obtain ⟨s1,s2,s3,_⟩:=qee (f:=f) h1 (by rw [List.length_cons]at hf;omega)
 have hj2:j < (ordP v l).length:=by rw [←hQ,List.length_map];exact hj
 have er:Q[j].row=(ordP v l)[j]:=by
  have:(Q.map (·.row))[j]'(by rw [List.length_map];exact hj)=(ordP v l)[j]:=by simp only [hQ]
  rw [List.getElem_map]at this
  exact this
 obtain ⟨v2,l2,t2,e2,o2,le2⟩:=qe5 h1 _ ((qdg v l).mem_iff.1 (List.getElem_mem hj2))
 have hsum:=qph (f:=f) (ordP v l) j hj2 s2
 rw [s3]at hsum
 have hfin:R0++v::((ordP v l).take (j+1) |>.map (sortF f)).flatten=(R0++v::((ordP v l).take j |>.map (sortF f)).flatten)++sortF f (v2::l2):=by
  rw [List.take_succ_eq_append_getElem hj2,List.map_append,List.flatten_append,e2];simp
 rw [hfin]
 rw [e2]at hsum le2
 have hp2:=hp.2
 rw [er,e2]at hp2
 unfold Pt.enc
 rw [er,e2]
 rw [List.length_cons]at hl hf hR0
 refine ih f (d+1) (isObj v) v2 l2 t2 w B b _ _ val _ (by omega) o2 (by omega) hp2 hb hne ho hB (by omega) ?_
 rw [List.length_append,List.length_cons]
 omega
theorem SS.push {w:World} {B b:Nat} {A:Option Addr} {n:Nat} {Q:List Pt} {val:Value} {w3 w4:World} {v3 v4:Value} {R R':List V} {ob:Obj} (h:SS w B b A n Q val w3 v3 R) (h1:OwnVals w4 B v4 R') (h2:Kept (w3.alloc ob) w4 (fun k=> B≤k∧v3.ownBlock=some k)) (h3:∀k,v4.ownBlock=some k→v3.ownBlock=some k∨(w3.alloc ob).heap.size≤k):SS w B b A n Q val w4 v4 R':=
 h.next h1 ((Stq.of_below (below_alloc' w3 ob) v3).trans ⟨h2.mono (fun _ _ hk=> hk.2),h3⟩)
theorem SS.start {w w2:World} {B b:Nat} {A:Option Addr} {n:Nat} {Q:List Pt} {val:Value} {R:List V} (ho:OwnVals w B val R) (hb:b < w.heap.size) (hne:∀k,val.ownBlock=some k→k≠b) (k:Below w.heap.size w w2) (hr:RowsAt w2 w.heap.size b A n Q):SS w B b A n Q val w2 val R:=
 ⟨ho.below k,Stq.of_below k val,hr.mono (Nat.zero_le _),Nat.lt_of_lt_of_le hb k.size,hne,fun h0 g hg=> by
  obtain ⟨g2,e2,h2,r2⟩:=hr.at_ h0
  rw [hg]at e2
  simp only [Option.some.injEq,Addr.mk.injEq]at e2
  obtain ⟨e2,_⟩:=e2
  refine ⟨by rw [e2];exact r2.lt,fun i hi=> ?_⟩
  have:=(ho.block hi).2
  omega⟩
theorem qqc:∀m,SortP m:=by
 intro m
 induction m with
 | zero=>
  intro f d ob v l t w B b o c val R hd h1;have:=h1.deep
  omega
 | succ m ih=>
  intro f d ob v l t w B b o c val R hd h1 hf hL hb hne ho hB hl hlen;obtain ⟨f,rfl⟩:∃g,f=g+1:=⟨f - 1,by rw [List.length_cons]at hf;omega⟩
  have he:=qju h1
  obtain ⟨s1,s2,s3,s4⟩:=qee (f:=f) h1 (by rw [List.length_cons]at hf;omega)
  obtain ⟨c0,c1,c2,c3⟩:=hL.head
  have hn0:(0:Int) < ((v::l).length:Int):=by rw [List.length_cons];omega
  have hn9:(v::l).length≤250000:=by omega
  have HRW:=Qh (qqv w b o (v::l).length c v l hL hn9 (qc9 he).1)
  have HPART:=Qh (fun (Q:List Pt) (hQ:Q.map (·.row)=ordP v l)=> qve ih hd h1 hl hf Q hQ)
  have HOL:=Qh (show (ordP v l).length≤250000 from by
   have h4:=(qdg v l).length_eq
   have h5:=qo1 he
   have h6:=hl
   rw [List.length_cons]at h6
   omega)
  have HPR:=Qh (show (ptsOf o c (ownParts v l)).map (·.row)=ownParts v l from qir o c _)
  have HL:=Qh (fun wx (k:Stq w wx val val)=> (hL.stq k hne).head)
  have HLB:=Qh (fun wx (k:Below w.heap.size w wx)=> show PtIn wx b ⟨o,c,v::l⟩from ⟨Nat.succ_pos _,hL.below k⟩)
  have HST:=Qh (fun A n Q w2 (k:Below w.heap.size w w2) (hr:RowsAt w2 w.heap.size b A n Q)=> SS.start (B:=B) (val:=val) (R:=R) ho hb hne k hr)
  have HBO:=Qh (fun k hk=> (ho.block (k:=k) hk))
  rw [s1];by_cases hk:v.kind=6
  ·have hob:isObj v=true:=by unfold isObj;rw [hk];rfl
   have HG:=Qh (show grp v=true by unfold grp;rw [hk];rfl)
   have HQL:=Qh (show (ptsOf o c (ownParts v l)).length=(ordP v l).length by rw [qde,(qdg v l).length_eq])
   have HORD:=Qh (fun (Q2:List Pt) (hp:Q2.Perm (ptsOf o c (ownParts v l))) (hs:Q2.Pairwise fun p q=> ltF (ptKey q) (ptKey p)=false)=> show Q2.map (·.row)=ordP v l from by
    unfold ordP;rw [if_pos hob];refine qtg (by rw [←HPR.out];exact hp.map _) (s4 hob) ?_
    exact List.pairwise_map.2 hs)
   clear ih hL h1 hf ho hl he s1 s2 s3 s4 hob HPR;generalize ptsOf o c (ownParts v l)=Q at*;generalize ordP v l=O at*;generalize (v::l).length=n at*;generalize (⟨o,c,v::l⟩:Pt)=p0 at*;obtain ⟨k,key,tx,z⟩:=v
   dsimp only at hk c0 c1 c2 c3 HL
   subst hk;go_enter Tryz.func51,Tryz.ntmps51
   go_wp2_with fail;refine HRW.out.mono ?_
   rintro e w2 ⟨A,m2,rfl,hA,HR2⟩;obtain ⟨A,rfl⟩:∃a,A=some a:=by
    cases A with
    | none=> cases (hA rfl).2.symm.trans HG.out
    | some a=> exact ⟨a,rfl⟩
   obtain ⟨g1,g2,g3⟩:=HR2.out.2.2 A rfl
   generalize A.block=ga at g1 g2 g3;subst g3;have HS2:=Qh (HST.out _ _ _ w2 HR2.out.2.1 HR2.out.1)
   obtain ⟨d0,d1,d2,d3⟩:=HL.out w2 HS2.out.step
   have hm2:m2≤1000000:=by
    have h1:=HOL.out
    have h2:=HR2.out.1.len
    have h3:=HQL.out
    omega
   have HSO:=Qh (q2i w2 w.heap.size b ga m2 Q HR2.out.1 g2 (by omega) p0 (HLB.out w2 HR2.out.2.1) (by omega))
   clear HRW c0 c1 c2 c3 hA;go_wp2_with fail;refine HSO.out.mono ?_
   rintro e w3 ⟨rfl,Q2,HP,HK⟩;have HQ2:=Qh (HORD.out Q2 HP.out.1 HP.out.2)
   have HS3:=Qh (HST.out _ _ _ w3 (HR2.out.2.1.trans (HK.out.2.below HR2.out.2.1.size (fun k hk hh=> by omega))) HK.out.1)
   clear HSO HP HORD HR2 HK HS2 HST d0 d1 d2 d3 HLB;obtain ⟨c0,c1,c2,c3⟩:=HL.out w3 HS3.out.step
   clear HL;have hql:Q2.length=m2:=HS3.out.rows.len
   have HVA:Hid (ValsAt (w3.alloc (.cells #[.int .i64 6, .string (sb key), .string (sb tx), .int .i64 z] 72)) (some ⟨w3.heap.size,0,none⟩) 1 1 [⟨6,key,tx,z⟩]):=Qh (ValsAt.lay (Row.new w3 72 (cellsV [⟨6,key,tx,z⟩])) 1 rfl)
   have HPT:=Qh (HPART.out Q2 HQ2.out)
   have hOl:O.length=m2:=by rw [←HQ2.out,List.length_map,hql]
   have hB3:B≤w3.heap.size:=Nat.le_trans hB HS3.out.step.kept.size
   have hm9:m2≤1000000:=by
    have:=HOL.out
    omega
   clear HPART HQ2;go_wp2_with (first
    | (with_reducible refine qdm rfl _ rfl 6 (sb key) (sb tx) z rfl ?_)
    | (at_builtin;go_must (with_reducible refine qa6 rfl _ _ rfl B val R rfl (HS3.out.own.below (qac w3 _)) ⟨w3.heap.size,0,none⟩ 1 1 [⟨6,key,tx,z⟩] rfl HVA.out (by omega) (by simp;omega) ?_;intro v4 w4 h1 h2 h3;have HS4:=Qh (HS3.out.push h1.out h2.out h3.out);clear h1 h2 h3)))
   clear HVA HS3;go_loopg [0,25] m2 (fun g vb vk wx=> ∃j:Nat,vk= .int .i64 (j:Int)∧j+g=m2∧Hid (SS w B b (some ⟨ga,0,none⟩) m2 Q2 val wx vb (R++⟨6,key,tx,z⟩::((O.take j).map (sortF f)).flatten)))
   case atStart=> exact ⟨0,rfl,by omega,Qh HS4.out⟩
   case round=>
    obtain ⟨j,rfl,hjg,HX⟩:=hrel
    have hBx:B≤wr.heap.size:=Nat.le_trans hB HX.out.step.kept.size
    cases gk with
    | zero=>
     obtain rfl:j=m2:=by omega
     have hge:¬(j:Int) < (j:Int):=by omega
     have HF:=Qh (show R++⟨6,key,tx,z⟩::((O.take j).map (sortF f)).flatten=R++⟨6,key,tx,z⟩::(O.map (sortF f)).flatten by rw [List.take_of_length_le (by omega)])
     rw [HF.out]at HX
     clear HPT HS4;go_wp2_with fail;go_ret;exact ⟨_,rfl,HX.out.own,HX.out.step⟩
    | succ g=>
     have hj:j < Q2.length:=by omega
     obtain ⟨gb,e, -,rr⟩:=HX.out.rows.at_ (by omega)
     cases e
     have cc:wr.cell? ⟨ga,j,none⟩=some (Pt.enc b Q2[j]):=rr.cell (by rw [List.getElem?_map,List.getElem?_eq_getElem hj];rfl)
     have hjn:(j:Int) < (m2:Int):=by omega
     have HCC:=Qh (HPT.out b B R hlen j hj wr u0 HX.out.dis.lt HX.out.dis.ne HX.out.own hBx (HX.out.rows.ins _ (List.getElem_mem hj)))
     unfold Pt.enc at cc HCC;clear rr HS4 HPT;generalize Q2[j]=q at*;obtain ⟨o1,cp1,row1⟩:=q
     dsimp only at*
     generalize row1.length=rl at*;go_wp2_with fail;refine HCC.out.mono ?_
     rintro e w5 ⟨v5,rfl,P1,P2⟩;have HN:=Qh (HX.out.next P1 P2)
     clear P1 P2 HCC cc;go_wp2_with fail;go_roundg g
     case measure=> omega
     case rel=> exact ⟨j+1,by go_num,by omega,HN⟩
  ·have hkb:(v.kind==6)=false:=beq_eq_false_iff_ne.2 hk
   have hob:¬isObj v=true:=fun h=> hk (of_decide_eq_true h)
   have HORD:=Qh (show (ptsOf o c (ownParts v l)).map (·.row)=ordP v l from by
    unfold ordP;rw [if_neg hob];exact HPR.out)
   clear ih hL h1 hf ho hl he s1 s2 s3 s4 hob HPR HLB;generalize ptsOf o c (ownParts v l)=Q2 at*;generalize ordP v l=O at*;generalize (v::l).length=n at*;obtain ⟨k,key,tx,z⟩:=v
   dsimp only at hk hkb c0 c1 c2 c3 HL
   go_enter Tryz.func51,Tryz.ntmps51
   go_wp2_with fail;refine HRW.out.mono ?_
   rintro e w3 ⟨A,m2,rfl,hA,HR2⟩;have HQ2:=HORD
   have HS3:=Qh (HST.out _ _ _ w3 HR2.out.2.1 HR2.out.1)
   clear HRW c0 c1 c2 c3 hA HR2 HORD HST;obtain ⟨c0,c1,c2,c3⟩:=HL.out w3 HS3.out.step
   clear HL;have hql:Q2.length=m2:=HS3.out.rows.len
   have HVA:Hid (ValsAt (w3.alloc (.cells #[.int .i64 k, .string (sb key), .string (sb tx), .int .i64 z] 72)) (some ⟨w3.heap.size,0,none⟩) 1 1 [⟨k,key,tx,z⟩]):=Qh (ValsAt.lay (Row.new w3 72 (cellsV [⟨k,key,tx,z⟩])) 1 rfl)
   have HPT:=Qh (HPART.out Q2 HQ2.out)
   have hOl:O.length=m2:=by rw [←HQ2.out,List.length_map,hql]
   have hB3:B≤w3.heap.size:=Nat.le_trans hB HS3.out.step.kept.size
   have hm9:m2≤1000000:=by
    have:=HOL.out
    omega
   clear HPART HQ2;go_wp2_with (first
    | (with_reducible refine qdm rfl _ rfl k (sb key) (sb tx) z rfl ?_)
    | (at_builtin;go_must (with_reducible refine qa6 rfl _ _ rfl B val R rfl (HS3.out.own.below (qac w3 _)) ⟨w3.heap.size,0,none⟩ 1 1 [⟨k,key,tx,z⟩] rfl HVA.out (by omega) (by simp;omega) ?_;intro v4 w4 h1 h2 h3;have HS4:=Qh (HS3.out.push h1.out h2.out h3.out);clear h1 h2 h3)))
   clear HVA HS3;go_loopg [0,25] m2 (fun g vb vk wx=> ∃j:Nat,vk= .int .i64 (j:Int)∧j+g=m2∧Hid (SS w B b A m2 Q2 val wx vb (R++⟨k,key,tx,z⟩::((O.take j).map (sortF f)).flatten)))
   case atStart=> exact ⟨0,rfl,by omega,Qh HS4.out⟩
   case round=>
    obtain ⟨j,rfl,hjg,HX⟩:=hrel
    have hBx:B≤wr.heap.size:=Nat.le_trans hB HX.out.step.kept.size
    cases gk with
    | zero=>
     obtain rfl:j=m2:=by omega
     have hge:¬(j:Int) < (j:Int):=by omega
     have HF:=Qh (show R++⟨k,key,tx,z⟩::((O.take j).map (sortF f)).flatten=R++⟨k,key,tx,z⟩::(O.map (sortF f)).flatten by rw [List.take_of_length_le (by omega)])
     rw [HF.out]at HX
     clear HPT HS4;go_wp2_with fail;go_ret;exact ⟨_,rfl,HX.out.own,HX.out.step⟩
    | succ g=>
     have hj:j < Q2.length:=by omega
     obtain ⟨gb,e, -,rr⟩:=HX.out.rows.at_ (by omega)
     cases e
     have cc:wr.cell? ⟨gb,j,none⟩=some (Pt.enc b Q2[j]):=rr.cell (by rw [List.getElem?_map,List.getElem?_eq_getElem hj];rfl)
     have hjn:(j:Int) < (m2:Int):=by omega
     have HCC:=Qh (HPT.out b B R hlen j hj wr u0 HX.out.dis.lt HX.out.dis.ne HX.out.own hBx (HX.out.rows.ins _ (List.getElem_mem hj)))
     unfold Pt.enc at cc HCC;clear rr HS4 HPT;generalize Q2[j]=q at*;obtain ⟨o1,cp1,row1⟩:=q
     dsimp only at*
     generalize row1.length=rl at*;go_wp2_with fail;refine HCC.out.mono ?_
     rintro e w5 ⟨v5,rfl,P1,P2⟩;have HN:=Qh (HX.out.next P1 P2)
     clear P1 P2 HCC cc;go_wp2_with fail;go_roundg g
     case measure=> omega
     case rel=> exact ⟨j+1,by go_num,by omega,HN⟩
theorem qev (w:World) (A:Option Addr) (n c:Nat) (L:List V) (hL:ValsAt w A n c L) (hn:n≤250000) (hs:Short 1000000000 L) (hT:TabOk w):
  Calls Tryz.prog 21 #[.slice A n c] w fun e w'=> ∃val,e= .returned val∧Hid (OwnVals w' w.heap.size val (if rightPF L=true then sortF L.length L else [])∧Below w.heap.size w w'):=by
 have hlen:=hL.len
 have HR:=Qh (qc4 w A n c L hL hn hs hT)
 by_cases hr:rightPF L=true
 ·rw [if_pos hr]
  rw [hr]at HR
  obtain ⟨t,ht⟩:=(qa4 L).1 hr
  have h5:=ht.1
  obtain ⟨v,r,t1,rfl,hone,rfl⟩:=row_one' ht
  obtain ⟨b,o,rfl,hb,_⟩:=hL.at_ (by rw [←hlen,List.length_cons];omega)
  have HA:=Qh (fun W (k:Below w.heap.size w W)=> qqc 50 (v::r).length 0 false v r t1 W w.heap.size b o c (.slice none 0 0) [] rfl hone (Nat.le_refl _) (by rw [hlen];exact hL.below k) (Nat.lt_of_lt_of_le hb k.size) (fun _ h=> by cases h) (OwnVals.nil _ _) k.size h5 (by
   show 0+_≤_
   omega))
  rw [List.nil_append,hlen]at HA
  rw [hlen];clear hL hs hT ht hone hr;generalize sortF n (v::r)=SL at*;go_enter Tryz.func21,Tryz.ntmps21
  go_wp2_with fail;refine HR.out.mono ?_
  rintro e w2 ⟨rfl,HB⟩;have HAA:=Qh (HA.out w2 HB.out)
  clear HR HA;go_wp2_with fail;refine HAA.out.mono ?_
  rintro e w3 ⟨v3,rfl,P1,P2⟩;have HX:=Qh (And.intro P1 (HB.out.trans (P2.below HB.out.size (fun k hk=> by cases hk))))
  clear P1 P2 HAA;go_wp2_with fail;go_ret;exact ⟨v3,rfl,HX⟩
 ·rw [if_neg hr]
  rw [Bool.not_eq_true]at hr
  rw [hr]at HR
  clear hL hs hT hr;go_enter Tryz.func21,Tryz.ntmps21
  go_wp2_with fail;refine HR.out.mono ?_
  rintro e w2 ⟨rfl,HB⟩;clear HR;go_wp2_with fail;go_ret;exact ⟨.slice none 0 0,rfl,Qh ⟨OwnVals.nil _ _,HB.out⟩⟩
end Go.Proofs.YtgmangikcfakgaaGreatDoor
namespace Go.Proofs.YtgmangikcfakgaaGreatDoor
open Go.RowKit Sh Jt Js Jo
theorem qmm (w:World) (A:Option Addr) (n c:Nat) (Q:List Pe) (hQ:HistsAt w A n c Q) (hn:n≤140737488355328):
  Calls Tryz.prog 17 #[.slice A n c] w fun e w'=> e= .returned (.int .i64 ((layersN (histsOf Q):Nat):Int))∧Hid (Below w.heap.size w w'):=by
 have hlen:=hQ.len
 have HQ:=Qh (fun W (q:Below w.heap.size w W)=> hQ.below q)
 have HNX:=Qh (fun j (h:j < Q.length)=> qhj Q h)
 obtain ⟨R,hR⟩:∃R,R=layersN (histsOf Q):=⟨_,rfl⟩
 rw [←hR]
 have HR:=Qh hR
 clear hQ hR
 go_enter Tryz.func17,Tryz.ntmps17
 go_wp2_with fail
 go_loopg [3,8] n (fun g v3 v8 wx=> ∃j x:Nat,v3= .int .i64 (x:Int)∧v8= .int .i64 (j:Int)∧j+g=n∧Hid (x=layersN (histsOf (Q.take j)))∧x≤j∧Hid (Below w.heap.size w wx))
 case atStart=> exact ⟨0,0,rfl,rfl,by omega,Qh rfl,Nat.le_refl _,Qh (Below.refl _ _)⟩
 case round=>
  obtain ⟨j,x,rfl,rfl,hjg,HX,hxj,HB⟩:=hrel
  cases gk with
  | zero=>
   obtain rfl:j=n:=by omega
   have hge:¬(j:Int) < (j:Int):=by omega
   have hx:x=R:=by rw [HX.out,HR.out,List.take_of_length_le (by omega)]
   subst hx;go_wp2_with fail;go_ret;exact ⟨rfl,HB⟩
  | succ g=>
   have hj:j < Q.length:=by omega
   obtain ⟨b,o,rfl,hbl,_⟩:=(HQ.out wr HB.out).at_ (by omega)
   have HON:=Qh ((HQ.out wr HB.out).one hj)
   have hnx:=HNX.out j hj
   have hjn:(j:Int) < (n:Int):=by omega
   have hj0:(0:Int)≤(j:Int):=by omega
   have hst:layersN (histsOf (Q.take (j+1)))=x+if Q[j].empty=true then 0 else 1:=by
    rw [hnx,qf0,←HX.out];rfl
   have HST:=Qh hst
   clear hst hnx HX;generalize Q[j]=pe at*;clear hj;go_upto_region 5 with (first
    | ((with_reducible refine qas ?_ 42 (.tmp 10) ?_ b (o+j*3) pe.enc #[.string (sb pe.who), .bool pe.empty,pe.rest.enc] ?_ _ ?_ Tryz.underlying42 ?_ ?_ ?_ ?_);rfl;rfl;go_must (rfl;exact HON.out;rfl;exact qai;rfl))
    | ((with_reducible refine qaf ?_ 42 (.tmp 5) (.tmp 11) ?_ wr.heap.size pe.enc ?_ ?_ hz ?_ ?_ ?_ ?_ ?_);rfl;rfl;go_must (rfl;rfl;rfl;exact Row.at_ _ _ _ rfl rfl;exact qai;exact qbq _ _ _ _ _;intro w2 R2 K2 E2)))
   have KB2:=Qh (show Below wr.heap.size wr w2 from (qaq K2.out).below (Nat.le_refl _) (fun _ _ h=> h))
   have HB2:=Qh (HB.out.trans (KB2.out.mono HB.out.size))
   have x1:w2.cell? ⟨wr.heap.size,1,none⟩=some (.bool pe.empty):=R2.out.cell (i:=1) rfl
   clear K2 E2 KB2 R2 HB HON;generalize wr.heap.size=q at*;cases hb:pe.empty with
   | true=>
    rw [hb]at x1 HST
    have hs2:layersN (histsOf (Q.take (j+1)))=x:=HST.out
    have HS2:=Qh hs2.symm
    clear hs2 HST hb;go_wp2_with fail;go_roundg g
    case measure=> omega
    case rel=> exact ⟨j+1,x,rfl,by go_num,by omega,HS2,by omega,HB2⟩
   | false=>
    rw [hb]at x1 HST
    have hs2:layersN (histsOf (Q.take (j+1)))=x+1:=HST.out
    have HS2:=Qh hs2.symm
    clear hs2 HST hb;go_wp2_with fail;go_roundg g
    case measure=> omega
    case rel=> exact ⟨j+1,x+1,by go_num,by go_num,by omega,HS2,by omega,HB2⟩
theorem qms (w:World) (A1:Option Addr) (n1 c1:Nat) (A2:Option Addr) (n2 c2:Nat):
  Calls Tryz.prog 30 #[.slice A1 n1 c1, .slice A2 n2 c2] w fun e w'=> e= .returned (.bool (decide (n1≤60∧n2≤200)))∧Hid (Below w.heap.size w w'):=by
 have HX:=Qh (Below.refl w.heap.size w)
 by_cases h1:n1≤60
 ·by_cases h2:n2≤200
  ·have g1:(n1:Int)≤60:=by omega
   have g2:(n2:Int)≤200:=by omega
   rw [decide_eq_true ⟨h1,h2⟩];go_enter Tryz.func30,Tryz.ntmps30
   go_wp2_with fail;go_ret;exact ⟨rfl,HX⟩
  ·have g1:(n1:Int)≤60:=by omega
   have g2:¬(n2:Int)≤200:=by omega
   rw [decide_eq_false (fun h=> h2 h.2)];go_enter Tryz.func30,Tryz.ntmps30
   go_wp2_with fail;go_ret;exact ⟨rfl,HX⟩
 ·have g1:¬(n1:Int)≤60:=by omega
  rw [decide_eq_false (fun h=> h1 h.1)];go_enter Tryz.func30,Tryz.ntmps30
  go_wp2_with fail;go_ret;exact ⟨rfl,HX⟩
theorem qhm (w:World) (A1:Option Addr) (n1 c1:Nat) (A2:Option Addr) (n2 c2:Nat) (Q:List Pe) (hQ:HistsAt w A2 n2 c2 Q) (hn:n2≤140737488355328):
  Calls Tryz.prog 31 #[.slice A1 n1 c1, .slice A2 n2 c2] w fun e w'=> e= .returned (.bool (decide (0 < n2→layersN (histsOf Q)=n1)))∧Hid (Below w.heap.size w w'):=by
 have HL:=Qh (qmm w A2 n2 c2 Q hQ hn)
 have HX:=Qh (Below.refl w.heap.size w)
 generalize layersN (histsOf Q)=ly at*
 clear hQ
 by_cases h0:n2=0
 ·subst h0
  rw [decide_eq_true (fun h=> absurd h (Nat.lt_irrefl _))];clear HL;go_enter Tryz.func31,Tryz.ntmps31
  go_wp2_with fail;go_ret;exact ⟨rfl,HX⟩
 ·have g0:((n2:Int)==0)=false:=beq_eq_false_iff_ne.2 (by omega)
  have hd:decide (0 < n2→ly=n1)=((ly:Int)==(n1:Int)):=by
   by_cases e:ly=n1
   ·rw [decide_eq_true (fun _=> e),e,beq_self_eq_true]
   ·rw [decide_eq_false (fun h=> e (h (by omega))),beq_eq_false_iff_ne.2 (fun h=> e (by omega))]
  rw [hd];clear hd;go_enter Tryz.func31,Tryz.ntmps31
  go_wp2_with fail;refine HL.out.mono ?_
  rintro e w1 ⟨rfl,K1⟩;generalize ((ly:Int)==(n1:Int))=bb;go_wp2_with fail;go_ret;exact ⟨rfl,K1⟩
theorem qk5 (w:World) (A:Option Addr) (n c:Nat) (L:List V) (hL:ValsAt w A n c L) (hn:n≤250000) (hs:Short 1000000000 L) (hT:TabOk w) (a b:List UInt8):
  Calls Tryz.prog 32 #[.slice A n c, .string (sb a), .string (sb b)] w fun e w'=> ∃v',e= .returned v'∧Hid (OwnVals w' w.heap.size v' (sortA (dropA (dropA L a) b))∧Below w.heap.size w w'):=by
 have hlen:=hL.len
 have HT:=Qh (fun W (q:Below w.heap.size w W)=> hT.below q)
 have HD:=Qh (qaj (L:=dropA L a) rfl (qr8 w A n c L hL hn hs hT a))
 have hd1:=qda (L:=L) a
 have hd2:=qda (L:=dropA L a) b
 have HS1:=Qh (qbj hs (key:=a))
 have HS2:=Qh (qbj HS1.out (key:=b))
 clear hL hs hT
 generalize hX1:dropA L a=X1 at*
 generalize hX2:dropA X1 b=X2 at*
 have HX2:=Qh hX2
 clear hX1 hX2
 go_enter Tryz.func32,Tryz.ntmps32
 go_wp2_with fail
 refine HD.out.mono ?_
 rintro e w1 ⟨A1,c1,rfl,K1⟩
 have B1:=Qh K1.out.2.2
 have HB:=Qh (qaj (L:=X2) rfl (by have:=qr8 w1 A1 X1.length c1 X1 K1.out.2.1 (by omega) HS1.out (HT.out w1 B1.out) b;rw [HX2.out]at this;exact this))
 clear K1 HD
 go_wp2_with fail
 refine HB.out.mono ?_
 rintro e w2 ⟨A2,c2,rfl,K2⟩
 have B2:=Qh (B1.out.trans (K2.out.2.2.mono B1.out.size))
 have HV2:=Qh K2.out.2.1
 clear K2 HB B1
 go_wp2_with fail
 refine (qev w2 A2 X2.length c2 X2 HV2.out (by omega) HS2.out (HT.out w2 B2.out)).mono ?_
 rintro e w3 ⟨v3,rfl,K3⟩
 have HX:=Qh (And.intro (K3.out.1.mono B2.out.size) (B2.out.trans (K3.out.2.mono B2.out.size)))
 clear K3 B2 HV2
 go_wp2_with fail
 go_ret
 exact ⟨_,rfl,HX⟩
theorem qna (w:World) (A:Option Addr) (n c:Nat) (L:List V) (hL:ValsAt w A n c L) (hn:n≤250000) (hs:Short 1000000000 L) (hT:TabOk w) (a b:List UInt8):
  Calls Tryz.prog 74 #[.slice A n c, .string (sb a), .string (sb b)] w fun e w'=> e= .returned (.bool (plainF L a b))∧Hid (Below w.heap.size w w'):=by
 have HSO:=Qh (qaj (L:=sortA L) rfl (qev w A n c L hL hn hs hT))
 have HGA:=Qh (fun W (q:Below w.heap.size w W)=> qcz W A n c L (hL.below q) hn hs (hT.below q) 0 a)
 have HGB:=Qh (fun W (q:Below w.heap.size w W)=> qcz W A n c L (hL.below q) hn hs (hT.below q) 0 b)
 have HVC:=Qh (fun W (q:Below w.heap.size w W)=> hL.below q)
 have hlen:=hL.len
 have B0:=Qh (Below.refl w.heap.size w)
 have hs5:(sortA L).length≤5000:=by
  unfold sortA;split
  next h=>
   rw [(qcn h).2.2];exact qbc h
  next=> exact Nat.zero_le _
 obtain ⟨R,hR⟩:∃R,R=plainF L a b:=⟨_,rfl⟩
 rw [←hR]
 have HR:=Qh hR
 clear hR hL hs hT
 have pl0:plc none= -1:=rfl
 have pls:∀q:Nat,plc (some q)=(q:Int):=fun _=> rfl
 by_cases h0:n=0
 ·subst h0
  have HX:=Qh (show R=false from by
   rw [HR.out];refine qld ?_
   rw [List.eq_nil_of_length_eq_zero hlen];decide)
  clear HR HSO HGA HGB HVC;go_enter Tryz.func74,Tryz.ntmps74
  go_wp2_with fail;go_ret;rw [HX.out];exact ⟨rfl,B0⟩
 have hpos:0 < L.length:=by omega
 have hk0:kindOf L=L[0].kind:=by
  match L,hpos with
  | v::r,_=> rfl
 have hnz:((n:Int)==0)=false:=beq_eq_false_iff_ne.2 (by omega)
 obtain ⟨bb,o,rfl,hbl,_⟩:=(HVC.out w B0.out).at_ (by omega)
 have h00:(0:Int) < (n:Int):=by omega
 have x0:w.cell? ⟨bb,o,none⟩=some (.int .i64 L[0].kind):=by
  have:=((HVC.out w B0.out).cells hpos).1
  rwa [Nat.zero_mul,Nat.add_zero]at this
 by_cases h6:L[0].kind=6
 case neg=>
  have HX:=Qh (show R=false from by rw [HR.out];exact qld (by rw [hk0];exact h6))
  have cb:(L[0].kind !=6)=true:=bne_iff_ne.2 h6
  clear HR HSO HGA HGB HVC h6 hk0;generalize L[0].kind=y0 at*;go_enter Tryz.func74,Tryz.ntmps74
  go_wp2_with fail;go_ret;rw [HX.out];exact ⟨rfl,B0⟩
 rw [h6]at x0
 have hk6:kindOf L=6:=hk0.trans h6
 have HK6:=Qh hk6
 clear h6 hk0 hk6
 go_enter Tryz.func74,Tryz.ntmps74
 go_wp2_with fail
 refine HSO.out.mono ?_
 rintro e w3 ⟨A3,c3,rfl,H3⟩
 have B3:=Qh H3.out.2.2
 have HEQ:=Qh (q0a w3 A3 (some ⟨bb,o,none⟩) (sortA L).length c3 n c (sortA L) L H3.out.2.1 (HVC.out w3 B3.out) (by omega) (by omega))
 clear H3 HSO B0 x0
 generalize (sortA L).length=sn at*
 go_wp2_with fail
 refine HEQ.out.mono ?_
 rintro e w4 ⟨rfl,m,rfl⟩
 have B4:=Qh (qaa B3.out m)
 clear B3 HEQ
 generalize w3.drewN m=w5 at*
 by_cases hq:sortA L=L
 case neg=>
  have HX:=Qh (show R=false from by rw [HR.out];exact qln hq)
  rw [decide_eq_false hq];clear HR HGA HGB HVC hq;go_wp2_with fail;go_ret;rw [HX.out];exact ⟨rfl,B4⟩
 have HXY:=Qh (show R=(decide (getA L 0 a=none) && decide (getA L 0 b=none))from HR.out.trans (qtu hpos HK6.out hq))
 rw [decide_eq_true hq]
 clear HR hq HK6
 go_wp2_with fail
 refine (HGA.out w5 B4.out).mono ?_
 rintro e w6 ⟨rfl,K6⟩
 have B6:=Qh (B4.out.trans (K6.out.mono B4.out.size))
 clear B4 K6 HGA
 cases hga:getA L 0 a with
 | some p=>
  have HX:=Qh (show R=false from by rw [HXY.out,hga];rfl)
  rw [pls];have hp0:((p:Int)== -1)=false:=beq_eq_false_iff_ne.2 (by omega)
  clear HXY HGB HVC hga;go_wp2_with fail;go_ret;rw [HX.out];exact ⟨rfl,B6⟩
 | none=>
  have HXZ:Hid (R=decide (getA L 0 b=none)):=Qh (by rw [HXY.out,hga];rfl)
  rw [pl0];clear HXY hga;go_wp2_with fail;refine (HGB.out w6 B6.out).mono ?_
  rintro e w7 ⟨rfl,K7⟩;have B7:=Qh (B6.out.trans (K7.out.mono B6.out.size))
  clear B6 K7 HGB;cases hgb:getA L 0 b with
  | some p=>
   have HX:=Qh (show R=false from by rw [HXZ.out,hgb];rfl)
   rw [pls];have hp0:((p:Int)== -1)=false:=beq_eq_false_iff_ne.2 (by omega)
   clear HXZ HVC hgb;go_wp2_with fail;go_ret;rw [HX.out];exact ⟨rfl,B7⟩
  | none=>
   have HX:=Qh (show R=true from by rw [HXZ.out,hgb];rfl)
   rw [pl0];clear HXZ HVC hgb;go_wp2_with fail;go_ret;rw [HX.out];exact ⟨rfl,B7⟩
end Go.Proofs.YtgmangikcfakgaaGreatDoor
