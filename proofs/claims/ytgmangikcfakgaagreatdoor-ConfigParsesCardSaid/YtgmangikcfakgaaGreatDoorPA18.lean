import Derived.Test.YtgmangikcfakgaaGreatDoorPA17
set_option maxRecDepth 100000
set_option maxHeartbeats 40000000
namespace Go.Proofs.YtgmangikcfakgaaGreatDoor
open Go.RowKit Sh Jt Js
structure CEnv (w:World):Prop where
 js:JsEnv w
 tab:TabOk w
theorem CEnv.below {w w':World} (h:CEnv w) (k:Below w.heap.size w w'):CEnv w':=⟨h.js.below k,h.tab.below k⟩
structure BoolsAt (w:World) (A:Option Addr) (n c:Nat) (L:List Bool):Prop where
 len:L.length=n
 cap:n≤c
 at_:0 < n→∃b o,A=some ⟨b,o,none⟩∧b < w.heap.size∧w.rangeAt b o (L.map .bool)
theorem BoolsAt.below {w w':World} {A:Option Addr} {n c:Nat} {L:List Bool} (h:BoolsAt w A n c L) (hb:Below w.heap.size w w'):BoolsAt w' A n c L:=
 ⟨h.len,h.cap,fun hn=> by
  obtain ⟨b,o,e,hlt,hr⟩:=h.at_ hn
  exact ⟨b,o,e,Nat.lt_of_lt_of_le hlt hb.size,qbd hr (qad hb) (fun h=> h)⟩⟩
theorem BoolsAt.cell {w:World} {b o n c:Nat} {L:List Bool} (h:BoolsAt w (some ⟨b,o,none⟩) n c L) {i:Nat} (hi:i < L.length):w.cell? ⟨b,o+i,none⟩=some (.bool L[i]):=by
 obtain ⟨b',o',e,_,hr⟩:=h.at_ (by have:=h.len;omega)
 cases e
 exact hr i _ (by rw [List.getElem?_map,List.getElem?_eq_getElem hi];rfl)
end Go.Proofs.YtgmangikcfakgaaGreatDoor
namespace Go.Proofs.YtgmangikcfakgaaGreatDoor
open Go.RowKit Go.Maps Go.WideMaps Sh Jt Js
def PtIn (w:World) (b:Nat) (p:Pt):Prop:=0 < p.row.length∧ValsAt w (some ⟨b,p.off,none⟩) p.row.length p.cap p.row
theorem PtIn.below {w w':World} {b:Nat} {p:Pt} (h:PtIn w b p) (k:Below w.heap.size w w'):PtIn w' b p:=⟨h.1,h.2.below k⟩
def ptKey (p:Pt):List UInt8:=Js.keyOf p.row
theorem PtIn.key {w:World} {b:Nat} {p:Pt} (h:PtIn w b p):w.cell? ⟨b,p.off+1,none⟩=some (.string (sb (ptKey p))):=by
 obtain ⟨o,c,r⟩:=p
 match r,h with
 | [],h=> exact absurd h.1 (Nat.lt_irrefl _)
 | v::r,h=> exact h.2.head.2.1
theorem qz4 (W:World) (b:Nat) (p:Pt) (h:PtIn W b p):Calls Tryz.prog 153 #[p.enc b] W fun e w'=> e= .returned (.bool (!(ptKey p).isEmpty))∧∃q,w'=W.drewN q:=by
 have c1:=h.key
 have h0:(0:Int) < (p.row.length:Int):=by have:=h.1;omega
 have hn:(!(ptKey p).isEmpty)= !((sb (ptKey p)).toList.isEmpty):=by rw [qab]
 rw [hn]
 unfold Pt.enc
 generalize p.row.length=n at*
 generalize p.cap=c at*
 generalize p.off=o at*
 generalize ptKey p=k at*
 match k with
 | []=>
  have h1:(sb []).toList=[]:=qab _
  have h2:(sb []).toList.isEmpty=true:=by rw [h1];rfl
  rw [h2];go_enter Tryz.func153,Tryz.ntmps153
  go_wp2_with fail;go_ret;exact ⟨rfl,0,rfl⟩
 | a::r=>
  have h1:¬(sb (a::r)).toList=[]:=by rw [qab];exact List.cons_ne_nil _ _
  have h2:(sb (a::r)).toList.isEmpty=false:=by rw [qab];rfl
  rw [h2];go_enter Tryz.func153,Tryz.ntmps153
  go_wp2_with fail;go_ret;exact ⟨rfl,0,rfl⟩
theorem qr1 (w:World) (B b:Nat) (A:Option Addr) (n:Nat) (Q:List Pt) (h:RowsAt w B b A n Q) (hn:n≤250000):
  Calls Tryz.prog 152 #[.slice A n n, .func (.func 153) #[] #[]] w fun e w'=> e= .returned (.bool (Q.any fun p=> !(ptKey p).isEmpty))∧Below w.heap.size w w':=by
 have hl:=h.len
 by_cases h0:n=0
 ·subst h0
  obtain rfl:Q=[]:=List.eq_nil_of_length_eq_zero hl
  refine Calls.mono (AnyE.slices_ContainsFunc_empty Tryz.contF A 0 _ w) ?_
  rintro e w' ⟨rfl,rfl⟩;exact ⟨rfl,Below.refl _ _⟩
 ·obtain ⟨g,rfl,hB,r⟩:=h.at_ (by omega)
  have hin:∀p∈Q,PtIn w b p:=h.ins
  match Q,hl with
  | [],hl=> exact absurd hl (by simp;omega)
  | q0::Q0,hl=>
   haveI:Inhabited {p:Pt // PtIn w b p}:=⟨⟨q0,hin q0 List.mem_cons_self⟩⟩
   obtain ⟨zs,hzs⟩:∃zs:List {p:Pt // PtIn w b p},zs.map (·.1)=q0::Q0:=⟨(q0::Q0).attach.map fun x=> ⟨x.1,hin x.1 x.2⟩,by rw [List.map_map];exact (List.attach_map_val (f:=id)).trans (List.map_id _)⟩
   have hzl:zs.length=n:=by rw [←hl,←hzs,List.length_map]
   have eg:∀args w,(callFunc 153 args).run Tryz.prog w= .ok (.enter 153 args) w:=enters_of Tryz.func153 (by kernel_rfl) rfl
   have hcon:=AnyE.slices_ContainsFunc Tryz.contF (α:= {p:Pt // PtIn w b p}) (fun p=> p.1.enc b) (fun p=> !(ptKey p.1).isEmpty) 153 #[] eg g 0 n n zs w (fun W x hb=> qz4 W b x.1 (x.2.below hb)) (by omega) (by omega) (fun j hj=> by
    rw [getElem!_pos zs j hj,Nat.zero_add];refine r.cell ?_
    rw [←hzs,List.map_map,List.getElem?_map,List.getElem?_eq_getElem hj];rfl)
   refine Calls.mono hcon ?_
   rintro e w' ⟨rfl,q,rfl⟩;refine ⟨?_,qaa (Below.refl _ _) q⟩
   rw [←hzs,List.any_map,List.take_of_length_le (by omega)];rfl
namespace Js
theorem qro (xs acc:List Lit) (ha:acc.Nodup) (hk:∀x∈xs,∃b,x=Lit.string b) (hka:∀x∈acc,∃b,x=Lit.string b):
  (xs.foldl addKey acc).length≤acc.length+xs.length∧((xs.foldl addKey acc).length=acc.length+xs.length↔(acc++xs).Nodup):=by
 induction xs generalizing acc with
 | nil=> simpa using ha
 | cons x r ih=>
  obtain ⟨b,rfl⟩:=hk x (List.mem_cons_self ..)
  have hany:acc.any (fun y=> y.sameKey (.string b))=true↔Lit.string b∈acc:=by
   rw [List.any_eq_true];constructor
   ·rintro ⟨y,hy,h⟩
    obtain ⟨c,rfl⟩:=hka y hy
    have:c=b:=by simpa [Lit.sameKey] using h
    rw [←this];exact hy
   ·intro h
    exact ⟨_,h,by simp [Lit.sameKey]⟩
  rw [List.foldl_cons];by_cases hm:Lit.string b∈acc
  ·have e:addKey acc (.string b)=acc:=by unfold addKey;exact if_pos (hany.2 hm)
   rw [e];obtain ⟨h1,h2⟩:=ih acc ha (fun y hy=> hk y (List.mem_cons_of_mem _ hy)) hka
   refine ⟨by rw [List.length_cons];omega,⟨fun h=> by rw [List.length_cons]at h;omega,fun h=> ?_⟩⟩
   have:=(List.nodup_append.1 h).2.2 (.string b) hm (.string b) (List.mem_cons_self ..)
   exact absurd rfl this
  ·have e:addKey acc (.string b)=acc++[.string b]:=by unfold addKey;exact if_neg (fun h=> hm (hany.1 h))
   rw [e];have ha2:(acc++[Lit.string b]).Nodup:=by
    rw [List.nodup_append];exact ⟨ha,by simp,fun y hy z hz=> by rw [List.mem_singleton.1 hz];rintro rfl;exact hm hy⟩
   obtain ⟨h1,h2⟩:=ih (acc++[.string b]) ha2 (fun y hy=> hk y (List.mem_cons_of_mem _ hy)) (fun y hy=> by
    rcases List.mem_append.1 hy with h | h
    ·exact hka y h
    ·exact ⟨b,List.mem_singleton.1 h⟩)
   rw [List.length_append,List.length_singleton,List.append_assoc,List.singleton_append]at h2
   rw [List.length_append,List.length_singleton]at h1
   refine ⟨by rw [List.length_cons];omega,⟨fun h=> h2.1 (by rw [List.length_cons]at h;omega),fun h=> ?_⟩⟩
   have:=h2.2 h
   rw [List.length_cons];omega
theorem qq5 (ks:List (List UInt8)):Maps.size (keySet ks)≤ks.length∧(Maps.size (keySet ks)=ks.length↔ks.Nodup):=by
 have h:=qro (ks.reverse.map keyL) [] List.nodup_nil (fun x hx=> by
  obtain ⟨p,_,rfl⟩:=List.mem_map.1 hx
  exact ⟨p,rfl⟩) (fun x hx=> by cases hx)
 unfold keySet
 rw [size_setOf _ _ (fun x hx=> by
  obtain ⟨p,_,rfl⟩:=List.mem_map.1 hx
  trivial)]
 simp only [List.length_nil,Nat.zero_add,List.length_map,List.nil_append,List.length_reverse]at h
 refine ⟨h.1,h.2.trans ?_⟩
 have e:ks.reverse.Nodup↔ks.Nodup:=(List.reverse_perm ks).nodup_iff
 rw [←e]
 constructor
 ·exact fun h=> (List.nodup_iff_pairwise_ne.2 ((List.pairwise_map.1 (List.nodup_iff_pairwise_ne.1 h)).imp fun {a b} hab e=> hab (by rw [e])))
 ·exact fun h=> List.nodup_iff_pairwise_ne.2 (List.pairwise_map.2 ((List.nodup_iff_pairwise_ne.1 h).imp fun {a b} hab e=> hab (Lit.string.inj e)))
end Js
theorem qs4 (w:World) (n:Nat):(Instr.makeMap 171 (some (.int .i64 (n:Int)))).run Tryz.prog w= .ok (.map (some w.heap.size)) (w.alloc (.map #[] 0)):=by
 simp [Instr.makeMap,run_underlying Tryz.underlying171,asInt,asIntOf,Result.andThen]
namespace Js
def keysN (Q:List Pt) (k:Nat):List (List UInt8):=((Q.take k).map ptKey).reverse
theorem qtr (Q:List Pt) (k:Nat) (h:k < Q.length):keysN Q (k+1)=ptKey Q[k]::keysN Q k:=by
 unfold keysN
 rw [List.take_succ_eq_append_getElem h,List.map_append,List.reverse_append]
 rfl
theorem qwo (Q:List Pt) (k:Nat) (h:k≤Q.length):(keysN Q k).length=k:=by
 unfold keysN
 rw [List.length_reverse,List.length_map,List.length_take]
 omega
theorem qvc (Q:List Pt):(keysN Q Q.length).Nodup↔(Q.map ptKey).Nodup:=by
 unfold keysN
 rw [List.take_length]
 exact (List.reverse_perm _).nodup_iff
theorem qqb (Q:List Pt):(Q.map (·.row)).map Js.keyOf=Q.map ptKey:=by rw [List.map_map];rfl
end Js
theorem qt0 (w:World) (B b:Nat) (A:Option Addr) (n:Nat) (Q:List Pt) (k:Int) (h:RowsAt w B b A n Q) (hA:A=none→n=0) (hn:n≤250000) (hT:TabOk w) (hk:∀p∈Q,(ptKey p).length≤1000000000):
  Calls Tryz.prog 121 #[.slice A n n, .int .i64 k] w fun e w'=> e= .returned (.bool (keysB (Q.map (·.row)) (decide (k=6))))∧Hid (Below w.heap.size w w'):=by
 have hlen:=h.len
 by_cases h6:k=6
 ·subst h6
  have hkB:keysB (Q.map (·.row)) (decide ((6:Int)=6))=((Q.map ptKey).all validF && decide (Q.map ptKey).Nodup):=by
   unfold keysB;rw [qqb];rfl
  rw [hkB];clear hkB;obtain ⟨RV,hRV⟩:∃RV,RV=((Q.map ptKey).all validF && decide (Q.map ptKey).Nodup):=⟨_,rfl⟩
  rw [←hRV];have HRV:=Qh hRV
  clear hRV;have HL:=Qh h
  have HK:=Qh hk
  have HT:=Qh hT
  have hmm:=fun W=> qs4 W n
  clear h hk hT;go_enter Tryz.func121,Tryz.ntmps121
  go_wp2_with fail;clear hmm;go_loopg [18] n (fun g vk wx=> ∃j:Nat,vk= .int .i64 (j:Int)∧j+g=n∧Hid (wx.ownsMap Tryz.prog 9 (unitElem (H:=Unit)) w.heap.size j (keySet (keysN Q j)))∧Hid ((Q.map ptKey).all validF=((Q.drop j).map ptKey).all validF)∧Hid (Below w.heap.size w wx))
  case atStart=> exact ⟨0,rfl,by omega,Qh (World.ownsMap_made _ _ _ _),Qh rfl,Qh ((Below.refl _ _).alloc (Nat.le_refl _) _)⟩
  case round=>
   obtain ⟨j,rfl,hjg,HO,HV,HB⟩:=hrel
   cases gk with
   | zero=>
    obtain rfl:j=n:=by omega
    have hge:¬(j:Int) < (j:Int):=by omega
    have HX:=Qh (show RV=((Maps.size (keySet (keysN Q j)):Int)==(j:Int))from by
     rw [HRV.out,HV.out,List.drop_of_length_le (by omega),List.map_nil,List.all_nil,Bool.true_and];obtain ⟨s1,s2⟩:=qq5 (keysN Q j)
     rw [qwo Q j (by omega)]at s1 s2
     rw [show j=Q.length from hlen.symm]at s2 ⊢
     rw [qvc]at s2
     by_cases hnd:(Q.map ptKey).Nodup
     ·rw [decide_eq_true hnd,s2.2 hnd]
      exact (beq_self_eq_true _).symm
     ·rw [decide_eq_false hnd]
      exact (beq_eq_false_iff_ne.2 fun e=> hnd (s2.1 (by omega))).symm)
    go_wp2_with (first
     | (at_len;refine wpList_len_own _ rfl _ 171 rfl 9 172 Tryz.underlying171 _ w.heap.size j _ rfl HO.out ?_))
    go_ret;exact ⟨by rw [HX.out];rfl,HB⟩
   | succ g=>
    have hj:j < Q.length:=by omega
    obtain ⟨gb,rfl,hB,r⟩:=HL.out.at_ (by omega)
    have HIN:=Qh (HL.out.ins Q[j] (List.getElem_mem hj))
    have cc:wr.cell? ⟨gb,j,none⟩=some (Pt.enc b Q[j]):=(r.below HB.out r.lt).cell (by rw [List.getElem?_map,List.getElem?_eq_getElem hj];rfl)
    have c1:=PtIn.key (show PtIn wr b Q[j]from PtIn.below (w:=w) HIN.out HB.out)
    have hr0:(0:Int) < (Q[j].row.length:Int):=by have:=HIN.out.1;omega
    have HVC:=Qh (qj7 (ptKey Q[j]) (by have:=HK.out Q[j] (List.getElem_mem hj);omega) wr (HT.out.below HB.out))
    have HKY:=Qh (show keyOf Tryz.prog 9 (.string (sb (ptKey Q[j])))=some (keyL (ptKey Q[j]))from keyOf_string_mk Tryz.underlying9 (by have:=HK.out Q[j] (List.getElem_mem hj);rw [qag];unfold maxLen;omega))
    have HKS:=Qh (qtr Q j hj)
    have hjn:(j:Int) < (n:Int):=by omega
    have HD:=Qh (show ((Q.drop j).map ptKey).all validF=(validF (ptKey Q[j]) && ((Q.drop (j+1)).map ptKey).all validF)from by rw [List.drop_eq_getElem_cons hj];rfl)
    unfold Pt.enc at cc;clear r HIN;generalize Q[j]=p at*;obtain ⟨o1,cp1,row1⟩:=p
    dsimp only at*
    generalize row1.length=rl at*;generalize hkk:ptKey ⟨o1,cp1,row1⟩=kk at*;cases hv:validF kk with
    | false=>
     rw [hv]at HVC HD
     have HX:=Qh (show RV=false by rw [HRV.out,HV.out,HD.out];rfl)
     clear HV HD HKS;go_wp2_with fail;refine HVC.out.mono ?_
     rintro e w2 ⟨rfl,B2⟩;have HB2:=Qh (HB.out.trans (B2.mono HB.out.size))
     clear B2 HVC cc c1;go_wp2_with fail;go_ret;exact ⟨by rw [HX.out];rfl,HB2⟩
    | true=>
     rw [hv,Bool.true_and]at HD
     rw [hv]at HVC
     have HX:=Qh (HV.out.trans HD.out)
     clear HV HD;go_wp2_with fail;refine HVC.out.mono ?_
     rintro e w2 ⟨rfl,B2⟩;have HB2:=Qh (HB.out.trans (B2.mono HB.out.size))
     have HO2:=Qh (qhl HO.out (B2.block _ HO.out.lt))
     have c2:w2.cell? ⟨b,o1+1,none⟩=some (.string (sb kk)):=(qad B2).cell c1 (fun h=> h)
     clear B2 HVC c1 HO;go_wp2_with (first
      | (at_mapUpdate;refine wpList_mapUpdate_own _ rfl _ _ _ 171 rfl 9 172 qlk Tryz.underlying171 (unitElem (H:=Unit)) w.heap.size j _ rfl HO2.out (by unfold maxLen;omega) _ _ _ rfl rfl HKY.out _ [] unitElem_mk ?_;intro w3 hown3 hgrow3))
     go_roundg g
     case measure=> omega
     case rel=> exact ⟨j+1,by go_num,by omega,Qh (by rw [HKS.out,qja];exact hown3),HX,Qh (HB2.out.grown hgrow3 HB2.out.size (fun i hi=> by cases hi;exact Nat.le_refl _))⟩
 ·have hkB:keysB (Q.map (·.row)) (decide (k=6))= !(Q.any fun p=> !(ptKey p).isEmpty):=by
   unfold keysB;rw [decide_eq_false h6,if_neg (by decide),qqb,List.all_map];rw [List.not_any_eq_all_not];congr 1
   funext p
   simp only [Function.comp,Bool.not_not]
  rw [hkB];clear hkB;have HC:=Qh (qr1 w B b A n Q h hn)
  have hb6:(k !=6)=true:=bne_iff_ne.2 h6
  generalize (Q.any fun p=> !(ptKey p).isEmpty)=q at*;clear h hk hT;go_enter Tryz.func121,Tryz.ntmps121
  go_wp2_with fail;refine HC.out.mono ?_
  rintro e w2 ⟨rfl,B2⟩;have HB2:=Qh B2
  clear B2 HC;go_wp2_with fail;go_ret;exact ⟨rfl,HB2⟩
namespace Js
def Short (m:Nat) (l:List V):Prop:=∀v∈l,v.key.length≤m∧v.text.length≤m
theorem qc9 {v:V} {r:List V} (h:endP (v::r) 1=some (r.length+1)):(grp v=true→0≤v.count∧∃k,endP r v.count.toNat=some k)∧(∀p∈ownParts v r,endP p 1=some p.length∧(∀x∈p,x∈r)):=by
 rw [endP]at h
 split at h
 ·cases h
 next hc=>
  obtain ⟨k,hk,hkl⟩:=Option.map_eq_some_iff.1 h
  refine ⟨fun hg=> ?_,fun p hp=> ?_⟩
  ·rw [if_pos hg,Nat.add_zero]at hk
   exact ⟨by omega,k,hk⟩
  ·unfold ownParts at hp
   split at hp
   next hg=>
    rw [if_pos hg,Nat.add_zero]at hk
    obtain ⟨i1,i2,i3⟩:=qed _ _ _ hk
    refine ⟨i3 p hp,fun x hx=> ?_⟩
    have:x∈(partsP v.count.toNat r).flatten:=List.mem_flatten.2 ⟨p,hp,hx⟩
    rw [i2]at this
    exact List.mem_of_mem_take this
   ·cases hp
theorem qgo {v:V} {r:List V} (h:endP (v::r) 1=some (r.length+1)):∀p∈ownParts v r,p.length≤r.length:=fun p hp=> by
 rw [endP]at h
 split at h
 ·cases h
 next hc=>
  obtain ⟨k,hk,hkl⟩:=Option.map_eq_some_iff.1 h
  unfold ownParts at hp;split at hp
  next hg=>
   rw [if_pos hg,Nat.add_zero]at hk
   obtain ⟨i1,i2,i3⟩:=qed _ _ _ hk
   have h1:p.length≤(partsP v.count.toNat r).flatten.length:=by
    obtain ⟨a,b,hab⟩:=List.append_of_mem hp
    rw [hab,List.flatten_append,List.flatten_cons,List.length_append,List.length_append];omega
   rw [i2,List.length_take]at h1
   omega
  ·cases hp
theorem qo1 {v:V} {r:List V} (h:endP (v::r) 1=some (r.length+1)):(ownParts v r).length≤r.length:=by
 rw [endP]at h
 split at h
 ·cases h
 next hc=>
  obtain ⟨k,hk,hkl⟩:=Option.map_eq_some_iff.1 h
  unfold ownParts;split
  next hg=>
   rw [if_pos hg,Nat.add_zero]at hk
   have h1:=(qed _ _ _ hk).1
   have h2:=qbz _ _ _ hk
   omega
  ·exact Nat.zero_le _
end Js
theorem qqe {v:V} {r:List V} {M:Nat} (o c:Nat) (h:endP (v::r) 1=some (r.length+1)) (hs:Short M (v::r)) (hl:(v::r).length≤5000):
  (ptsOf o c (ownParts v r)).length≤5000∧∀p∈ptsOf o c (ownParts v r),endP p.row 1=some p.row.length∧Short M p.row∧p.row.length≤5000∧(ptKey p).length≤M:=by
 have h1:=qo1 h
 rw [List.length_cons]at hl
 refine ⟨by rw [qde];omega,fun p hp=> ?_⟩
 have hp2:p.row∈ownParts v r:=by rw [←qir o c (ownParts v r)];exact List.mem_map.2 ⟨p,hp,rfl⟩
 obtain ⟨g1,g2⟩:=(qc9 h).2 p.row hp2
 have g3:=qgo h p.row hp2
 have g4:Short M p.row:=fun x hx=> hs x (List.mem_cons_of_mem _ (g2 x hx))
 refine ⟨g1,g4,by omega, ?_⟩
 unfold ptKey
 match hr:p.row,g1 with
 | [],g1=> cases g1
 | y::t,_=> exact (g4 y (by rw [hr];exact List.mem_cons_self)).1
theorem qto:∀(m:Nat) (w:World) (b o c:Nat) (l:List V) (d:Nat),d+m=50→ValsAt w (some ⟨b,o,none⟩) l.length c l→endP l 1=some l.length→Short 1000000000 l→l.length≤5000→TabOk w→
  Calls Tryz.prog 84 #[.slice (some ⟨b,o,none⟩) l.length c, .int .i64 (d:Int)] w fun e w'=> e= .returned (.bool (rightP m l))∧Hid (Below w.heap.size w w'):=by
 intro m
 induction m with
 | zero=>
  intro w b o c l d hd hL he hs hl hT;have hd50:(d:Int)=50:=by omega
  have hr:rightP 0 l=false:=rfl
  rw [hr,hd50];have HB:=Qh (Below.refl w.heap.size w)
  clear hL hs hT;generalize l.length=n at*;go_enter Tryz.func84,Tryz.ntmps84
  go_wp2_with fail;go_ret;exact ⟨rfl,HB⟩
 | succ m ih=>
  intro w b o c l d hd hL he hs hl hT;match l,hL,he,hs,hl with
  | [],_,he,_,_=> cases he
  | v::r,hL,he,hs,hl=>
   have he:endP (v::r) 1=some (r.length+1):=he
   obtain ⟨e1,e2⟩:=qc9 he
   have e3:=qgo he
   obtain ⟨c0,c1,c2,c3⟩:=hL.head
   have hd50:¬(d:Int)=50:=by omega
   have hb50:((d:Int)==50)=false:=beq_eq_false_iff_ne.2 hd50
   have hn0:(0:Int) < ((v::r).length:Int):=by rw [List.length_cons];omega
   have hrp:rightP (m+1) (v::r)=(valB v && (keysB (ownParts v r) (isObj v) && (ownParts v r).all (rightP m))):=rfl
   have HV:=Qh (show Calls Tryz.prog 120 #[.agg #[.int .i64 v.kind, .string (sb v.key), .string (sb v.text), .int .i64 v.count]] w fun e w'=> e= .returned (.bool (valB v))∧Hid (Below w.heap.size w w')from qu1 w v (hs v List.mem_cons_self).2 hT)
   have hcp:=hL.cap
   obtain ⟨q1,q2⟩:=qqe o c he hs hl
   rw [hrp];obtain ⟨RV,hRV⟩:∃RV,RV=(valB v && (keysB (ownParts v r) (isObj v) && (ownParts v r).all (rightP m))):=⟨_,rfl⟩
   rw [←hRV];have HROW:=Qh (fun W (k:Below w.heap.size w W)=> qmb W b o (v::r).length c v r (hL.below k) (by omega) e1)
   have HKY:=Qh (fun W B A n (k:Below w.heap.size w W) (h:RowsAt W B b A n (ptsOf o c (ownParts v r))) (hA:A=none→n=0)=> qt0 W B b A n (ptsOf o c (ownParts v r)) v.kind h hA (by have:=h.len;omega) (hT.below k) (fun p hp=> (q2 p hp).2.2.2))
   have HIH:=Qh (fun W B A n (k:Below w.heap.size w W) (h:RowsAt W B b A n (ptsOf o c (ownParts v r))) j (hj:j < (ptsOf o c (ownParts v r)).length)=> ih W b (ptsOf o c (ownParts v r))[j].off (ptsOf o c (ownParts v r))[j].cap (ptsOf o c (ownParts v r))[j].row (d+1) (by omega) (h.ins _ (List.getElem_mem hj)).2 (q2 _ (List.getElem_mem hj)).1 (q2 _ (List.getElem_mem hj)).2.1 (q2 _ (List.getElem_mem hj)).2.2.1 (hT.below k))
   have HRV:=Qh hRV
   have HPR:=Qh (qir o c (ownParts v r))
   have HQ1:=Qh q1
   rw [HPR.out]at HKY
   clear q1 q2 hRV hrp he e1 e2 e3 ih hs hT hL hl;generalize ptsOf o c (ownParts v r)=Q at*;generalize (v::r).length=n at*;have hd0:(0:Int)≤(d:Int):=by omega
   have hd9:(d:Int)≤50:=by omega
   have HC0:=Qh c0
   cases hv:valB v with
   | false=>
    rw [hv]at HV HRV
    have HX:=Qh (show RV=false from HRV.out)
    clear HRV HROW HKY HIH;go_enter Tryz.func84,Tryz.ntmps84
    go_wp2_with fail;refine HV.out.mono ?_
    rintro e w2 ⟨rfl,HB2⟩;clear c0 c1 c2 c3 HV HC0;go_wp2_with fail;go_ret;exact ⟨by rw [HX.out];rfl,HB2⟩
   | true=>
    rw [hv]at HV HRV
    rw [Bool.true_and]at HRV
    go_enter Tryz.func84,Tryz.ntmps84
    go_wp2_with fail;refine HV.out.mono ?_
    rintro e w2 ⟨rfl,HB2⟩;have HRW:=Qh (HROW.out w2 HB2.out)
    clear c0 c1 c2 c3 HV HROW;go_wp2_with fail;refine HRW.out.mono ?_
    rintro e w3 ⟨A,k,rfl,hA,HR3⟩;have HB3:=Qh (HB2.out.trans (HR3.out.2.mono HB2.out.size))
    have c0:w3.cell? ⟨b,o,none⟩=some (.int .i64 v.kind):=(qad HB3.out).cell HC0.out (fun h=> h)
    have HKK:=Qh (HKY.out w3 w2.heap.size A k HB3.out HR3.out.1 hA)
    clear HRW HKY;clear hA HC0;have HRV2:Hid (RV=(keysB (ownParts v r) (decide (v.kind=6)) && (Q.map (·.row)).all (rightP m))):=Qh (by rw [HRV.out,HPR.out];rfl)
    clear HRV HPR;generalize keysB (ownParts v r) (decide (v.kind=6))=KB at*;have hkl:=HR3.out.1.len
    cases KB with
    | false=>
     have HX:=Qh (show RV=false from HRV2.out)
     clear HRV2 HIH;go_wp2_with fail;refine HKK.out.mono ?_
     rintro e w4 ⟨rfl,HB4⟩;have HB5:=Qh (HB3.out.trans (HB4.out.mono HB3.out.size))
     clear HKK c0;go_wp2_with fail;go_ret;exact ⟨by rw [HX.out];rfl,HB5⟩
    | true=>
     have HRV3:=Qh (HRV2.out.trans (Bool.true_and _))
     clear HRV2;have hkn:k≤5000:=by have:=HQ1.out;omega
     go_wp2_with fail;refine HKK.out.mono ?_
     rintro e w4 ⟨rfl,HB4⟩;have HB5:=Qh (HB3.out.trans (HB4.out.mono HB3.out.size))
     have HR5:=Qh (HR3.out.1.below HB4.out)
     clear HKK c0 HR3;go_wp2_with fail;go_loopg [28] k (fun g vk wx=> ∃j:Nat,vk= .int .i64 (j:Int)∧j+g=k∧Hid (RV=((Q.drop j).map (·.row)).all (rightP m))∧Hid (Below w4.heap.size w4 wx))
     case atStart=> exact ⟨0,rfl,by omega,Qh HRV3.out,Qh (Below.refl _ _)⟩
     case round=>
      obtain ⟨j,rfl,hjg,HV,HB⟩:=hrel
      have HBW:=Qh (HB5.out.trans (HB.out.mono HB5.out.size))
      cases gk with
      | zero=>
       obtain rfl:j=k:=by omega
       have hge:¬(j:Int) < (j:Int):=by omega
       have HX:=Qh (show RV=true by rw [HV.out,List.drop_of_length_le (by omega)];rfl)
       clear HV HIH;go_wp2_with fail;go_ret;exact ⟨by rw [HX.out];rfl,HBW⟩
      | succ g=>
       have hj:j < Q.length:=by omega
       obtain ⟨gb,rfl,hB,rr⟩:=HR5.out.at_ (by omega)
       have cc:wr.cell? ⟨gb,j,none⟩=some (Pt.enc b Q[j]):=(rr.below HB.out rr.lt).cell (by rw [List.getElem?_map,List.getElem?_eq_getElem hj];rfl)
       have hjn:(j:Int) < (k:Int):=by omega
       have HI:=Qh (HIH.out wr w2.heap.size (some ⟨gb,0,none⟩) k HBW.out (HR5.out.below HB.out) j hj)
       have HD:=Qh (show ((Q.drop j).map (·.row)).all (rightP m)=(rightP m Q[j].row && ((Q.drop (j+1)).map (·.row)).all (rightP m))from by rw [List.drop_eq_getElem_cons hj];rfl)
       unfold Pt.enc at cc;clear rr HIH;generalize Q[j]=p at*;obtain ⟨o1,cp1,row1⟩:=p
       dsimp only at*
       generalize row1.length=rl at*;cases hrr:rightP m row1 with
       | false=>
        rw [hrr]at HI HD
        have HX:=Qh (show RV=false by rw [HV.out,HD.out];rfl)
        clear HV HD;go_wp2_with fail;refine HI.out.mono ?_
        rintro e w5 ⟨rfl,HB6⟩;have HB7:=Qh (HBW.out.trans (HB6.out.mono HBW.out.size))
        clear HI cc;go_wp2_with fail;go_ret;exact ⟨by rw [HX.out];rfl,HB7⟩
       | true=>
        rw [hrr]at HI HD
        have HX:=Qh (HV.out.trans (HD.out.trans (Bool.true_and _)))
        clear HV HD;go_wp2_with fail;refine HI.out.mono ?_
        rintro e w5 ⟨rfl,HB6⟩;have HB7:=Qh (HB.out.trans (HB6.out.mono HB.out.size))
        clear HI cc;go_wp2_with fail;go_roundg g
        case measure=> omega
        case rel=> exact ⟨j+1,by go_num,by omega,HX,HB7⟩
theorem q0y {v:V} {r:List V}:endN (v::r) 0=((v::r).length:Int)↔endP (v::r) 1=some (v::r).length:=by
 unfold endN
 rw [if_pos (by rw [List.length_cons];omega),List.drop_zero]
 cases h:endP (v::r) 1 with
 | none=>
  constructor
  ·intro h2
   have h3:(-1:Int)=((v::r).length:Int):=h2
   omega
  ·intro h2
   cases h2
 | some k=>
  show ((0:Nat):Int)+(k:Int)=_↔_
  constructor
  ·intro h2
   rw [show k=(v::r).length by omega]
  ·intro h2
   rw [Option.some.inj h2];omega
theorem qc4 (w:World) (A:Option Addr) (n c:Nat) (L:List V) (hL:ValsAt w A n c L) (hn:n≤250000) (hs:Short 1000000000 L) (hT:TabOk w):
  Calls Tryz.prog 50 #[.slice A n c] w fun e w'=> e= .returned (.bool (rightPF L))∧Hid (Below w.heap.size w w'):=by
 have hlen:=hL.len
 have HB:=Qh (Below.refl w.heap.size w)
 obtain ⟨RV,hRV⟩:∃RV,RV=rightPF L:=⟨_,rfl⟩
 rw [←hRV]
 by_cases h5:n≤5000
 ·have h5':(n:Int)≤5000:=by omega
  have hd5:decide ((n:Int)≤5000)=true:=decide_eq_true h5'
  have HE:=Qh (show Calls Tryz.prog 55 #[.slice A n c, .int .i64 0] w fun e w'=> e= .returned (.int .i64 (endN L 0))∧Hid (Below w.heap.size w w')from qfm w A n c L hL hn 0 (by omega))
  match L,hL,hlen,hs with
  | [],hL,hlen,hs=>
   have hn0:n=0:=hlen.symm
   subst hn0;have HX:=Qh (show RV=false from hRV)
   have e1:endN [] 0= -1:=rfl
   rw [e1]at HE
   clear hRV hL e1 HB;go_enter Tryz.func50,Tryz.ntmps50
   go_wp2_with fail;refine HE.out.mono ?_
   rintro e w2 ⟨rfl,HB2⟩;clear HE;go_wp2_with fail;go_ret;exact ⟨by rw [HX.out];rfl,HB2⟩
  | v::r,hL,hlen,hs=>
   obtain ⟨b,o,rfl,_,_⟩:=hL.at_ (by rw [←hlen,List.length_cons];omega)
   obtain ⟨c0,c1,c2,c3⟩:=hL.head
   have hn0:(0:Int) < (n:Int):=by rw [←hlen,List.length_cons];omega
   have hez:=q0y (v:=v) (r:=r)
   have hpf:rightPF (v::r)=(decide ((v::r).length≤5000) && decide (endP (v::r) 1=some (v::r).length) && v.key.isEmpty && rightP 50 (v::r)):=rfl
   rw [hpf,decide_eq_true (by omega),Bool.true_and]at hRV
   clear hpf;by_cases he:endP (v::r) 1=some (v::r).length
   ·rw [hez.2 he,hlen]at HE
    rw [decide_eq_true he,Bool.true_and]at hRV
    have HI:=Qh (fun W (k:Below w.heap.size w W)=> qto 50 W b o c (v::r) 0 rfl (by rw [hlen];exact hL.below k) he hs (by omega) (hT.below k))
    rw [hlen]at HI
    have hbn:((n:Int)==(n:Int))=true:=beq_self_eq_true _
    have HRV:=Qh hRV
    clear hRV hL hs he hez hT HB;obtain ⟨k,key,t,z⟩:=v
    dsimp only at*
    match key with
    | []=>
     have h1:(sb []).toList=[]:=qab _
     have h2:(sb []).toList.isEmpty=true:=by rw [h1];rfl
     have HX:Hid (RV=rightP 50 (⟨k,[],t,z⟩::r)):=Qh HRV.out
     clear HRV;generalize rightP 50 (⟨k,[],t,z⟩::r)=RR at*;go_enter Tryz.func50,Tryz.ntmps50
     go_wp2_with fail;refine HE.out.mono ?_
     rintro e w2 ⟨rfl,HB2⟩;have d1:w2.cell? ⟨b,o+1,none⟩=some (.string (sb [])):=(qad HB2.out).cell c1 (fun h=> h)
     have HI2:=Qh (HI.out w2 HB2.out)
     change Hid (Calls _ _ #[_, .int .i64 0] _ _)at HI2
     clear HE c0 c1 c2 c3 HI;go_wp2_with fail;refine HI2.out.mono ?_
     rintro e w3 ⟨rfl,HB3⟩;have HB4:=Qh (HB2.out.trans (HB3.out.mono HB2.out.size))
     clear HI2 d1;go_wp2_with fail;go_ret;exact ⟨by rw [HX.out];rfl,HB4⟩
    | a::q=>
     have h1:¬(sb (a::q)).toList=[]:=by rw [qab];exact List.cons_ne_nil _ _
     have h2:(sb (a::q)).toList.isEmpty=false:=by rw [qab];rfl
     have HX:Hid (RV=false):=Qh HRV.out
     clear HRV HI;go_enter Tryz.func50,Tryz.ntmps50
     go_wp2_with fail;refine HE.out.mono ?_
     rintro e w2 ⟨rfl,HB2⟩;have d1:w2.cell? ⟨b,o+1,none⟩=some (.string (sb (a::q))):=(qad HB2.out).cell c1 (fun h=> h)
     clear HE c0 c1 c2 c3;go_wp2_with fail;go_ret;exact ⟨by rw [HX.out];rfl,HB2⟩
   ·have hne:¬endN (v::r) 0=(n:Int):=fun e=> he (hez.1 (by rw [e,hlen]))
    have hbn:(endN (v::r) 0==(n:Int))=false:=beq_eq_false_iff_ne.2 hne
    have HX:=Qh (show RV=false by rw [hRV,decide_eq_false he];rfl)
    clear hRV hL hs he hez hT HB;generalize endN (v::r) 0=z0 at*;go_enter Tryz.func50,Tryz.ntmps50
    go_wp2_with fail;refine HE.out.mono ?_
    rintro e w2 ⟨rfl,HB2⟩;clear HE c0 c1 c2 c3;go_wp2_with fail;go_ret;exact ⟨by rw [HX.out];rfl,HB2⟩
 ·have h5':¬(n:Int)≤5000:=by omega
  have hd5:decide ((n:Int)≤5000)=false:=decide_eq_false h5'
  have HX:=Qh (show RV=false by
   rw [hRV];unfold rightPF;rw [decide_eq_false (by omega)];rfl)
  clear hRV hL hs hT;go_enter Tryz.func50,Tryz.ntmps50
  go_wp2_with fail;go_ret;exact ⟨by rw [HX.out];rfl,HB⟩
end Go.Proofs.YtgmangikcfakgaaGreatDoor
