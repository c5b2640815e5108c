import Derived.Test.YtgmangikcfakgaaGreatDoorPL22
namespace Go.Proofs.YtgmangikcfakgaaGreatDoor
open Go.RowKit Go.Maps Go.WideMaps Sh Jt Js
namespace Js
def Short (m:Nat) (l:List V):Prop:=∀v∈l,v.key.length≤m∧v.text.length≤m
theorem own_ends {v:V} {r:List V} (h:endP (v::r) 1=some (r.length+1)):(grp v=true→0≤v.count∧∃k,endP r v.count.toNat=some k)∧(∀p∈ownParts v r,endP p 1=some p.length∧(∀x∈p,x∈r)):=by
 rw [endP]at h
 split at h
 ·cases h
 next hc=>
  obtain ⟨k,hk,hkl⟩:=Option.map_eq_some_iff.1 h
  refine ⟨fun hg=> ?_,fun p hp=> ?_⟩
  ·rw [if_pos hg,Nat.add_zero]at hk
   exact ⟨by omega,k,hk⟩
  ·unfold ownParts at hp
   split at hp
   next hg=>
    rw [if_pos hg,Nat.add_zero]at hk
    obtain ⟨i1,i2,i3⟩:=partsP_is _ _ _ hk
    refine ⟨i3 p hp,fun x hx=> ?_⟩
    have:x∈(partsP v.count.toNat r).flatten:=List.mem_flatten.2 ⟨p,hp,hx⟩
    rw [i2]at this
    exact List.mem_of_mem_take this
   ·cases hp
theorem own_lens {v:V} {r:List V} (h:endP (v::r) 1=some (r.length+1)):∀p∈ownParts v r,p.length≤r.length:=fun p hp=> by
 rw [endP]at h
 split at h
 ·cases h
 next hc=>
  obtain ⟨k,hk,hkl⟩:=Option.map_eq_some_iff.1 h
  unfold ownParts at hp
  split at hp
  next hg=>
   rw [if_pos hg,Nat.add_zero]at hk
   obtain ⟨i1,i2,i3⟩:=partsP_is _ _ _ hk
   have h1:p.length≤(partsP v.count.toNat r).flatten.length:=by
    obtain ⟨a,b,hab⟩:=List.append_of_mem hp
    rw [hab,List.flatten_append,List.flatten_cons,List.length_append,List.length_append]
    omega
   rw [i2,List.length_take]at h1
   omega
  ·cases hp
theorem own_many {v:V} {r:List V} (h:endP (v::r) 1=some (r.length+1)):(ownParts v r).length≤r.length:=by
 rw [endP]at h
 split at h
 ·cases h
 next hc=>
  obtain ⟨k,hk,hkl⟩:=Option.map_eq_some_iff.1 h
  unfold ownParts
  split
  next hg=>
   rw [if_pos hg,Nat.add_zero]at hk
   have h1:=(partsP_is _ _ _ hk).1
   have h2:=endP_le _ _ _ hk
   omega
  ·exact Nat.zero_le _
end Js
theorem pts_ok {v:V} {r:List V} {M:Nat} (o c:Nat) (h:endP (v::r) 1=some (r.length+1)) (hs:Short M (v::r)) (hl:(v::r).length≤5000):
  (ptsOf o c (ownParts v r)).length≤5000∧∀p∈ptsOf o c (ownParts v r),endP p.row 1=some p.row.length∧Short M p.row∧p.row.length≤5000∧(ptKey p).length≤M:=by
 have h1:=own_many h
 rw [List.length_cons]at hl
 refine ⟨by rw [pts_len];omega,fun p hp=> ?_⟩
 have hp2:p.row∈ownParts v r:=by rw [←pts_row o c (ownParts v r)];exact List.mem_map.2 ⟨p,hp,rfl⟩
 obtain ⟨g1,g2⟩:=(own_ends h).2 p.row hp2
 have g3:=own_lens h p.row hp2
 have g4:Short M p.row:=fun x hx=> hs x (List.mem_cons_of_mem _ (g2 x hx))
 refine ⟨g1,g4,by omega, ?_⟩
 unfold ptKey
 match hr:p.row,g1 with
 | [],g1=> cases g1
 | y::t,_=> exact (g4 y (by rw [hr];exact List.mem_cons_self)).1
set_option maxRecDepth 100000 in
set_option maxHeartbeats 8000000 in
theorem js_isRight:∀(m:Nat) (w:World) (b o c:Nat) (l:List V) (d:Nat),d+m=50→ValsAt w (some ⟨b,o,none⟩) l.length c l→endP l 1=some l.length→Short 1000000000 l→l.length≤5000→TabOk w→
  Calls Tryz.prog 84 #[.slice (some ⟨b,o,none⟩) l.length c, .int .i64 (d:Int)] w fun e w'=> e= .returned (.bool (rightP m l))∧Hid (Below w.heap.size w w'):=by
 intro m
 induction m with
 | zero=>
  intro w b o c l d hd hL he hs hl hT
  have hd50:(d:Int)=50:=by omega
  have hr:rightP 0 l=false:=rfl
  rw [hr,hd50]
  have HB:=Lib.hid (Below.refl w.heap.size w)
  clear hL hs hT
  generalize l.length=n at*
  go_enter Tryz.func84,Tryz.ntmps84
  go_wp2_with fail
  go_ret
  exact ⟨rfl,HB⟩
 | succ m ih=>
  intro w b o c l d hd hL he hs hl hT
  match l,hL,he,hs,hl with
  | [],_,he,_,_=> cases he
  | v::r,hL,he,hs,hl=>
   have he:endP (v::r) 1=some (r.length+1):=he
   obtain ⟨e1,e2⟩:=own_ends he
   have e3:=own_lens he
   obtain ⟨c0,c1,c2,c3⟩:=hL.head
   have hd50:¬(d:Int)=50:=by omega
   have hb50:((d:Int)==50)=false:=beq_eq_false_iff_ne.2 hd50
   have hn0:(0:Int) < ((v::r).length:Int):=by rw [List.length_cons];omega
   have hrp:rightP (m+1) (v::r)=(valB v && (keysB (ownParts v r) (isObj v) && (ownParts v r).all (rightP m))):=rfl
   have HV:=Lib.hid (show Calls Tryz.prog 120 #[.agg #[.int .i64 v.kind, .string (sb v.key), .string (sb v.text), .int .i64 v.count]] w fun e w'=> e= .returned (.bool (valB v))∧Hid (Below w.heap.size w w')from js_isValue w v (hs v List.mem_cons_self).2 hT)
   have hcp:=hL.cap
   obtain ⟨q1,q2⟩:=pts_ok o c he hs hl
   rw [hrp]
   obtain ⟨RV,hRV⟩:∃RV,RV=(valB v && (keysB (ownParts v r) (isObj v) && (ownParts v r).all (rightP m))):=⟨_,rfl⟩
   rw [←hRV]
   have HROW:=Lib.hid (fun W (k:Below w.heap.size w W)=> js_rows W b o (v::r).length c v r (hL.below k) (by omega) e1)
   have HKY:=Lib.hid (fun W B A n (k:Below w.heap.size w W) (h:RowsAt W B b A n (ptsOf o c (ownParts v r))) (hA:A=none→n=0)=> js_areKeys W B b A n (ptsOf o c (ownParts v r)) v.kind h hA (by have:=h.len;omega) (hT.below k) (fun p hp=> (q2 p hp).2.2.2))
   have HIH:=Lib.hid (fun W B A n (k:Below w.heap.size w W) (h:RowsAt W B b A n (ptsOf o c (ownParts v r))) j (hj:j < (ptsOf o c (ownParts v r)).length)=> ih W b (ptsOf o c (ownParts v r))[j].off (ptsOf o c (ownParts v r))[j].cap (ptsOf o c (ownParts v r))[j].row (d+1) (by omega) (h.ins _ (List.getElem_mem hj)).2 (q2 _ (List.getElem_mem hj)).1 (q2 _ (List.getElem_mem hj)).2.1 (q2 _ (List.getElem_mem hj)).2.2.1 (hT.below k))
   have HRV:=Lib.hid hRV
   have HPR:=Lib.hid (pts_row o c (ownParts v r))
   have HQ1:=Lib.hid q1
   rw [HPR.out]at HKY
   clear q1 q2 hRV hrp he e1 e2 e3 ih hs hT hL hl
   generalize ptsOf o c (ownParts v r)=Q at*
   generalize (v::r).length=n at*
   have hd0:(0:Int)≤(d:Int):=by omega
   have hd9:(d:Int)≤50:=by omega
   have HC0:=Lib.hid c0
   cases hv:valB v with
   | false=>
    rw [hv]at HV HRV
    have HX:=Lib.hid (show RV=false from HRV.out)
    clear HRV HROW HKY HIH
    go_enter Tryz.func84,Tryz.ntmps84
    go_wp2_with fail
    refine HV.out.mono ?_
    rintro e w2 ⟨rfl,HB2⟩
    clear c0 c1 c2 c3 HV HC0
    go_wp2_with fail
    go_ret
    exact ⟨by rw [HX.out];rfl,HB2⟩
   | true=>
    rw [hv]at HV HRV
    rw [Bool.true_and]at HRV
    go_enter Tryz.func84,Tryz.ntmps84
    go_wp2_with fail
    refine HV.out.mono ?_
    rintro e w2 ⟨rfl,HB2⟩
    have HRW:=Lib.hid (HROW.out w2 HB2.out)
    clear c0 c1 c2 c3 HV HROW
    go_wp2_with fail
    refine HRW.out.mono ?_
    rintro e w3 ⟨A,k,rfl,hA,HR3⟩
    have HB3:=Lib.hid (HB2.out.trans (HR3.out.2.mono HB2.out.size))
    have c0:w3.cell? ⟨b,o,none⟩=some (.int .i64 v.kind):=(kept_below HB3.out).cell HC0.out (fun h=> h)
    have HKK:=Lib.hid (HKY.out w3 w2.heap.size A k HB3.out HR3.out.1 hA)
    clear HRW HKY
    clear hA HC0
    have HRV2:Hid (RV=(keysB (ownParts v r) (decide (v.kind=6)) && (Q.map (·.row)).all (rightP m))):=Lib.hid (by rw [HRV.out,HPR.out];rfl)
    clear HRV HPR
    generalize keysB (ownParts v r) (decide (v.kind=6))=KB at*
    have hkl:=HR3.out.1.len
    cases KB with
    | false=>
     have HX:=Lib.hid (show RV=false from HRV2.out)
     clear HRV2 HIH
     go_wp2_with fail
     refine HKK.out.mono ?_
     rintro e w4 ⟨rfl,HB4⟩
     have HB5:=Lib.hid (HB3.out.trans (HB4.out.mono HB3.out.size))
     clear HKK c0
     go_wp2_with fail
     go_ret
     exact ⟨by rw [HX.out];rfl,HB5⟩
    | true=>
     have HRV3:=Lib.hid (HRV2.out.trans (Bool.true_and _))
     clear HRV2
     have hkn:k≤5000:=by have:=HQ1.out;omega
     go_wp2_with fail
     refine HKK.out.mono ?_
     rintro e w4 ⟨rfl,HB4⟩
     have HB5:=Lib.hid (HB3.out.trans (HB4.out.mono HB3.out.size))
     have HR5:=Lib.hid (HR3.out.1.below HB4.out)
     clear HKK c0 HR3
     go_wp2_with fail
     go_loopg [28] k (fun g vk wx=> ∃j:Nat,vk= .int .i64 (j:Int)∧j+g=k∧Hid (RV=((Q.drop j).map (·.row)).all (rightP m))∧Hid (Below w4.heap.size w4 wx))
     case atStart=> exact ⟨0,rfl,by omega,Lib.hid HRV3.out,Lib.hid (Below.refl _ _)⟩
     case round=>
      obtain ⟨j,rfl,hjg,HV,HB⟩:=hrel
      have HBW:=Lib.hid (HB5.out.trans (HB.out.mono HB5.out.size))
      cases gk with
      | zero=>
       obtain rfl:j=k:=by omega
       have hge:¬(j:Int) < (j:Int):=by omega
       have HX:=Lib.hid (show RV=true by rw [HV.out,List.drop_of_length_le (by omega)];rfl)
       clear HV HIH
       go_wp2_with fail
       go_ret
       exact ⟨by rw [HX.out];rfl,HBW⟩
      | succ g=>
       have hj:j < Q.length:=by omega
       obtain ⟨gb,rfl,hB,rr⟩:=HR5.out.at_ (by omega)
       have cc:wr.cell? ⟨gb,j,none⟩=some (Pt.enc b Q[j]):=(rr.below HB.out rr.lt).cell (by rw [List.getElem?_map,List.getElem?_eq_getElem hj];rfl)
       have hjn:(j:Int) < (k:Int):=by omega
       have HI:=Lib.hid (HIH.out wr w2.heap.size (some ⟨gb,0,none⟩) k HBW.out (HR5.out.below HB.out) j hj)
       have HD:=Lib.hid (show ((Q.drop j).map (·.row)).all (rightP m)=(rightP m Q[j].row && ((Q.drop (j+1)).map (·.row)).all (rightP m))from by rw [List.drop_eq_getElem_cons hj];rfl)
       unfold Pt.enc at cc
       clear rr HIH
       generalize Q[j]=p at*
       obtain ⟨o1,cp1,row1⟩:=p
       dsimp only at*
       generalize row1.length=rl at*
       cases hrr:rightP m row1 with
       | false=>
        rw [hrr]at HI HD
        have HX:=Lib.hid (show RV=false by rw [HV.out,HD.out];rfl)
        clear HV HD
        go_wp2_with fail
        refine HI.out.mono ?_
        rintro e w5 ⟨rfl,HB6⟩
        have HB7:=Lib.hid (HBW.out.trans (HB6.out.mono HBW.out.size))
        clear HI cc
        go_wp2_with fail
        go_ret
        exact ⟨by rw [HX.out];rfl,HB7⟩
       | true=>
        rw [hrr]at HI HD
        have HX:=Lib.hid (HV.out.trans (HD.out.trans (Bool.true_and _)))
        clear HV HD
        go_wp2_with fail
        refine HI.out.mono ?_
        rintro e w5 ⟨rfl,HB6⟩
        have HB7:=Lib.hid (HB.out.trans (HB6.out.mono HB.out.size))
        clear HI cc
        go_wp2_with fail
        go_roundg g
        case measure=> omega
        case rel=> exact ⟨j+1,by go_num,by omega,HX,HB7⟩
theorem end_zero {v:V} {r:List V}:endN (v::r) 0=((v::r).length:Int)↔endP (v::r) 1=some (v::r).length:=by
 unfold endN
 rw [if_pos (by rw [List.length_cons];omega),List.drop_zero]
 cases h:endP (v::r) 1 with
 | none=>
  constructor
  ·intro h2
   have h3:(-1:Int)=((v::r).length:Int):=h2
   omega
  ·intro h2
   cases h2
 | some k=>
  show ((0:Nat):Int)+(k:Int)=_↔_
  constructor
  ·intro h2
   rw [show k=(v::r).length by omega]
  ·intro h2
   rw [Option.some.inj h2]
   omega
set_option maxRecDepth 100000 in
set_option maxHeartbeats 4000000 in
theorem js_right (w:World) (A:Option Addr) (n c:Nat) (L:List V) (hL:ValsAt w A n c L) (hn:n≤250000) (hs:Short 1000000000 L) (hT:TabOk w):
  Calls Tryz.prog 50 #[.slice A n c] w fun e w'=> e= .returned (.bool (rightPF L))∧Hid (Below w.heap.size w w'):=by
 have hlen:=hL.len
 have HB:=Lib.hid (Below.refl w.heap.size w)
 obtain ⟨RV,hRV⟩:∃RV,RV=rightPF L:=⟨_,rfl⟩
 rw [←hRV]
 by_cases h5:n≤5000
 ·have h5':(n:Int)≤5000:=by omega
  have hd5:decide ((n:Int)≤5000)=true:=decide_eq_true h5'
  have HE:=Lib.hid (show Calls Tryz.prog 55 #[.slice A n c, .int .i64 0] w fun e w'=> e= .returned (.int .i64 (endN L 0))∧Hid (Below w.heap.size w w')from js_end w A n c L hL hn 0 (by omega))
  match L,hL,hlen,hs with
  | [],hL,hlen,hs=>
   have hn0:n=0:=hlen.symm
   subst hn0
   have HX:=Lib.hid (show RV=false from hRV)
   have e1:endN [] 0= -1:=rfl
   rw [e1]at HE
   clear hRV hL e1 HB
   go_enter Tryz.func50,Tryz.ntmps50
   go_wp2_with fail
   refine HE.out.mono ?_
   rintro e w2 ⟨rfl,HB2⟩
   clear HE
   go_wp2_with fail
   go_ret
   exact ⟨by rw [HX.out];rfl,HB2⟩
  | v::r,hL,hlen,hs=>
   obtain ⟨b,o,rfl,_,_⟩:=hL.at_ (by rw [←hlen,List.length_cons];omega)
   obtain ⟨c0,c1,c2,c3⟩:=hL.head
   have hn0:(0:Int) < (n:Int):=by rw [←hlen,List.length_cons];omega
   have hez:=end_zero (v:=v) (r:=r)
   have hpf:rightPF (v::r)=(decide ((v::r).length≤5000) && decide (endP (v::r) 1=some (v::r).length) && v.key.isEmpty && rightP 50 (v::r)):=rfl
   rw [hpf,decide_eq_true (by omega),Bool.true_and]at hRV
   clear hpf
   by_cases he:endP (v::r) 1=some (v::r).length
   ·rw [hez.2 he,hlen]at HE
    rw [decide_eq_true he,Bool.true_and]at hRV
    have HI:=Lib.hid (fun W (k:Below w.heap.size w W)=> js_isRight 50 W b o c (v::r) 0 rfl (by rw [hlen];exact hL.below k) he hs (by omega) (hT.below k))
    rw [hlen]at HI
    have hbn:((n:Int)==(n:Int))=true:=beq_self_eq_true _
    have HRV:=Lib.hid hRV
    clear hRV hL hs he hez hT HB
    obtain ⟨k,key,t,z⟩:=v
    dsimp only at*
    match key with
    | []=>
     have h1:(sb []).toList=[]:=sb_list _
     have h2:(sb []).toList.isEmpty=true:=by rw [h1];rfl
     have HX:Hid (RV=rightP 50 (⟨k,[],t,z⟩::r)):=Lib.hid HRV.out
     clear HRV
     generalize rightP 50 (⟨k,[],t,z⟩::r)=RR at*
     go_enter Tryz.func50,Tryz.ntmps50
     go_wp2_with fail
     refine HE.out.mono ?_
     rintro e w2 ⟨rfl,HB2⟩
     have d1:w2.cell? ⟨b,o+1,none⟩=some (.string (sb [])):=(kept_below HB2.out).cell c1 (fun h=> h)
     have HI2:=Lib.hid (HI.out w2 HB2.out)
     change Hid (Calls _ _ #[_, .int .i64 0] _ _)at HI2
     clear HE c0 c1 c2 c3 HI
     go_wp2_with fail
     refine HI2.out.mono ?_
     rintro e w3 ⟨rfl,HB3⟩
     have HB4:=Lib.hid (HB2.out.trans (HB3.out.mono HB2.out.size))
     clear HI2 d1
     go_wp2_with fail
     go_ret
     exact ⟨by rw [HX.out];rfl,HB4⟩
    | a::q=>
     have h1:¬(sb (a::q)).toList=[]:=by rw [sb_list];exact List.cons_ne_nil _ _
     have h2:(sb (a::q)).toList.isEmpty=false:=by rw [sb_list];rfl
     have HX:Hid (RV=false):=Lib.hid HRV.out
     clear HRV HI
     go_enter Tryz.func50,Tryz.ntmps50
     go_wp2_with fail
     refine HE.out.mono ?_
     rintro e w2 ⟨rfl,HB2⟩
     have d1:w2.cell? ⟨b,o+1,none⟩=some (.string (sb (a::q))):=(kept_below HB2.out).cell c1 (fun h=> h)
     clear HE c0 c1 c2 c3
     go_wp2_with fail
     go_ret
     exact ⟨by rw [HX.out];rfl,HB2⟩
   ·have hne:¬endN (v::r) 0=(n:Int):=fun e=> he (hez.1 (by rw [e,hlen]))
    have hbn:(endN (v::r) 0==(n:Int))=false:=beq_eq_false_iff_ne.2 hne
    have HX:=Lib.hid (show RV=false by rw [hRV,decide_eq_false he];rfl)
    clear hRV hL hs he hez hT HB
    generalize endN (v::r) 0=z0 at*
    go_enter Tryz.func50,Tryz.ntmps50
    go_wp2_with fail
    refine HE.out.mono ?_
    rintro e w2 ⟨rfl,HB2⟩
    clear HE c0 c1 c2 c3
    go_wp2_with fail
    go_ret
    exact ⟨by rw [HX.out];rfl,HB2⟩
 ·have h5':¬(n:Int)≤5000:=by omega
  have hd5:decide ((n:Int)≤5000)=false:=decide_eq_false h5'
  have HX:=Lib.hid (show RV=false by
   rw [hRV]
   unfold rightPF
   rw [decide_eq_false (by omega)]
   rfl)
  clear hRV hL hs hT
  go_enter Tryz.func50,Tryz.ntmps50
  go_wp2_with fail
  go_ret
  exact ⟨by rw [HX.out];rfl,HB⟩
end Go.Proofs.YtgmangikcfakgaaGreatDoor
