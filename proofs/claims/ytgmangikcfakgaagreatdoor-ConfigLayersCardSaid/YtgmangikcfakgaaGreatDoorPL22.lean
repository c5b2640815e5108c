import Derived.Test.YtgmangikcfakgaaGreatDoorPL19
import Derived.Test.YtgmangikcfakgaaGreatDoorPL21
namespace Go.Proofs.YtgmangikcfakgaaGreatDoor
open Go.RowKit Sh Jt Js
structure CEnv (w:World):Prop where
 js:JsEnv w
 tab:TabOk w
theorem CEnv.below {w w':World} (h:CEnv w) (k:Below w.heap.size w w'):CEnv w':=⟨h.js.below k,h.tab.below k⟩
structure BoolsAt (w:World) (A:Option Addr) (n c:Nat) (L:List Bool):Prop where
 len:L.length=n
 cap:n≤c
 at_:0 < n→∃b o,A=some ⟨b,o,none⟩∧b < w.heap.size∧w.rangeAt b o (L.map .bool)
theorem BoolsAt.below {w w':World} {A:Option Addr} {n c:Nat} {L:List Bool} (h:BoolsAt w A n c L) (hb:Below w.heap.size w w'):BoolsAt w' A n c L:=
 ⟨h.len,h.cap,fun hn=> by
  obtain ⟨b,o,e,hlt,hr⟩:=h.at_ hn
  exact ⟨b,o,e,Nat.lt_of_lt_of_le hlt hb.size,rangeAt_kept hr (kept_below hb) (fun h=> h)⟩⟩
theorem BoolsAt.cell {w:World} {b o n c:Nat} {L:List Bool} (h:BoolsAt w (some ⟨b,o,none⟩) n c L) {i:Nat} (hi:i < L.length):w.cell? ⟨b,o+i,none⟩=some (.bool L[i]):=by
 obtain ⟨b',o',e,_,hr⟩:=h.at_ (by have:=h.len;omega)
 cases e
 exact hr i _ (by rw [List.getElem?_map,List.getElem?_eq_getElem hi];rfl)
end Go.Proofs.YtgmangikcfakgaaGreatDoor
namespace Go.Proofs.YtgmangikcfakgaaGreatDoor
open Go.RowKit Go.Maps Go.WideMaps Sh Jt Js
def PtIn (w:World) (b:Nat) (p:Pt):Prop:=0 < p.row.length∧ValsAt w (some ⟨b,p.off,none⟩) p.row.length p.cap p.row
theorem PtIn.below {w w':World} {b:Nat} {p:Pt} (h:PtIn w b p) (k:Below w.heap.size w w'):PtIn w' b p:=⟨h.1,h.2.below k⟩
def ptKey (p:Pt):List UInt8:=Js.keyOf p.row
theorem PtIn.key {w:World} {b:Nat} {p:Pt} (h:PtIn w b p):w.cell? ⟨b,p.off+1,none⟩=some (.string (sb (ptKey p))):=by
 obtain ⟨o,c,r⟩:=p
 match r,h with
 | [],h=> exact absurd h.1 (Nat.lt_irrefl _)
 | v::r,h=> exact h.2.head.2.1
set_option maxRecDepth 100000 in
set_option maxHeartbeats 1000000 in
theorem js_noKey (W:World) (b:Nat) (p:Pt) (h:PtIn W b p):Calls Tryz.prog 153 #[p.enc b] W fun e w'=> e= .returned (.bool (!(ptKey p).isEmpty))∧∃q,w'=W.drewN q:=by
 have c1:=h.key
 have h0:(0:Int) < (p.row.length:Int):=by have:=h.1;omega
 have hn:(!(ptKey p).isEmpty)= !((sb (ptKey p)).toList.isEmpty):=by rw [sb_list]
 rw [hn]
 unfold Pt.enc
 generalize p.row.length=n at*
 generalize p.cap=c at*
 generalize p.off=o at*
 generalize ptKey p=k at*
 match k with
 | []=>
  have h1:(sb []).toList=[]:=sb_list _
  have h2:(sb []).toList.isEmpty=true:=by rw [h1];rfl
  rw [h2]
  go_enter Tryz.func153,Tryz.ntmps153
  go_wp2_with fail
  go_ret
  exact ⟨rfl,0,rfl⟩
 | a::r=>
  have h1:¬(sb (a::r)).toList=[]:=by rw [sb_list];exact List.cons_ne_nil _ _
  have h2:(sb (a::r)).toList.isEmpty=false:=by rw [sb_list];rfl
  rw [h2]
  go_enter Tryz.func153,Tryz.ntmps153
  go_wp2_with fail
  go_ret
  exact ⟨rfl,0,rfl⟩
theorem js_contains (w:World) (B b:Nat) (A:Option Addr) (n:Nat) (Q:List Pt) (h:RowsAt w B b A n Q) (hn:n≤250000):
  Calls Tryz.prog 152 #[.slice A n n, .func (.func 153) #[] #[]] w fun e w'=> e= .returned (.bool (Q.any fun p=> !(ptKey p).isEmpty))∧Below w.heap.size w w':=by
 have hl:=h.len
 by_cases h0:n=0
 ·subst h0
  obtain rfl:Q=[]:=List.eq_nil_of_length_eq_zero hl
  refine Calls.mono (AnyE.slices_ContainsFunc_empty Tryz.contF A 0 _ w) ?_
  rintro e w' ⟨rfl,rfl⟩
  exact ⟨rfl,Below.refl _ _⟩
 ·obtain ⟨g,rfl,hB,r⟩:=h.at_ (by omega)
  have hin:∀p∈Q,PtIn w b p:=h.ins
  match Q,hl with
  | [],hl=> exact absurd hl (by simp;omega)
  | q0::Q0,hl=>
   haveI:Inhabited {p:Pt // PtIn w b p}:=⟨⟨q0,hin q0 List.mem_cons_self⟩⟩
   obtain ⟨zs,hzs⟩:∃zs:List {p:Pt // PtIn w b p},zs.map (·.1)=q0::Q0:=⟨(q0::Q0).attach.map fun x=> ⟨x.1,hin x.1 x.2⟩,by rw [List.map_map];exact (List.attach_map_val (f:=id)).trans (List.map_id _)⟩
   have hzl:zs.length=n:=by rw [←hl,←hzs,List.length_map]
   have eg:∀args w,(callFunc 153 args).run Tryz.prog w= .ok (.enter 153 args) w:=enters_of Tryz.func153 (by kernel_rfl) rfl
   have hcon:=AnyE.slices_ContainsFunc Tryz.contF (α:= {p:Pt // PtIn w b p}) (fun p=> p.1.enc b) (fun p=> !(ptKey p.1).isEmpty) 153 #[] eg g 0 n n zs w (fun W x hb=> js_noKey W b x.1 (x.2.below hb)) (by omega) (by omega) (fun j hj=> by
    rw [getElem!_pos zs j hj,Nat.zero_add]
    refine r.cell ?_
    rw [←hzs,List.map_map,List.getElem?_map,List.getElem?_eq_getElem hj]
    rfl)
   refine Calls.mono hcon ?_
   rintro e w' ⟨rfl,q,rfl⟩
   refine ⟨?_,below_drewN (Below.refl _ _) q⟩
   rw [←hzs,List.any_map,List.take_of_length_le (by omega)]
   rfl
namespace Js
theorem addKeys_len (xs acc:List Lit) (ha:acc.Nodup) (hk:∀x∈xs,∃b,x=Lit.string b) (hka:∀x∈acc,∃b,x=Lit.string b):
  (xs.foldl addKey acc).length≤acc.length+xs.length∧((xs.foldl addKey acc).length=acc.length+xs.length↔(acc++xs).Nodup):=by
 induction xs generalizing acc with
 | nil=> simpa using ha
 | cons x r ih=>
  obtain ⟨b,rfl⟩:=hk x (List.mem_cons_self ..)
  have hany:acc.any (fun y=> y.sameKey (.string b))=true↔Lit.string b∈acc:=by
   rw [List.any_eq_true]
   constructor
   ·rintro ⟨y,hy,h⟩
    obtain ⟨c,rfl⟩:=hka y hy
    have:c=b:=by simpa [Lit.sameKey] using h
    rw [←this];exact hy
   ·intro h
    exact ⟨_,h,by simp [Lit.sameKey]⟩
  rw [List.foldl_cons]
  by_cases hm:Lit.string b∈acc
  ·have e:addKey acc (.string b)=acc:=by unfold addKey;exact if_pos (hany.2 hm)
   rw [e]
   obtain ⟨h1,h2⟩:=ih acc ha (fun y hy=> hk y (List.mem_cons_of_mem _ hy)) hka
   refine ⟨by rw [List.length_cons];omega,⟨fun h=> by rw [List.length_cons]at h;omega,fun h=> ?_⟩⟩
   have:=(List.nodup_append.1 h).2.2 (.string b) hm (.string b) (List.mem_cons_self ..)
   exact absurd rfl this
  ·have e:addKey acc (.string b)=acc++[.string b]:=by unfold addKey;exact if_neg (fun h=> hm (hany.1 h))
   rw [e]
   have ha2:(acc++[Lit.string b]).Nodup:=by
    rw [List.nodup_append]
    exact ⟨ha,by simp,fun y hy z hz=> by rw [List.mem_singleton.1 hz];rintro rfl;exact hm hy⟩
   obtain ⟨h1,h2⟩:=ih (acc++[.string b]) ha2 (fun y hy=> hk y (List.mem_cons_of_mem _ hy)) (fun y hy=> by
    rcases List.mem_append.1 hy with h | h
    ·exact hka y h
    ·exact ⟨b,List.mem_singleton.1 h⟩)
   rw [List.length_append,List.length_singleton,List.append_assoc,List.singleton_append]at h2
   rw [List.length_append,List.length_singleton]at h1
   refine ⟨by rw [List.length_cons];omega,⟨fun h=> h2.1 (by rw [List.length_cons]at h;omega),fun h=> ?_⟩⟩
   have:=h2.2 h
   rw [List.length_cons]
   omega
theorem keySet_size (ks:List (List UInt8)):Maps.size (keySet ks)≤ks.length∧(Maps.size (keySet ks)=ks.length↔ks.Nodup):=by
 have h:=addKeys_len (ks.reverse.map keyL) [] List.nodup_nil (fun x hx=> by
  obtain ⟨p,_,rfl⟩:=List.mem_map.1 hx
  exact ⟨p,rfl⟩) (fun x hx=> by cases hx)
 unfold keySet
 rw [size_setOf _ _ (fun x hx=> by
  obtain ⟨p,_,rfl⟩:=List.mem_map.1 hx
  trivial)]
 simp only [List.length_nil,Nat.zero_add,List.length_map,List.nil_append,List.length_reverse]at h
 refine ⟨h.1,h.2.trans ?_⟩
 have e:ks.reverse.Nodup↔ks.Nodup:=(List.reverse_perm ks).nodup_iff
 rw [←e]
 constructor
 ·exact fun h=> (List.nodup_iff_pairwise_ne.2 ((List.pairwise_map.1 (List.nodup_iff_pairwise_ne.1 h)).imp fun {a b} hab e=> hab (by rw [e])))
 ·exact fun h=> List.nodup_iff_pairwise_ne.2 (List.pairwise_map.2 ((List.nodup_iff_pairwise_ne.1 h).imp fun {a b} hab e=> hab (Lit.string.inj e)))
end Js
theorem js_makeMap (w:World) (n:Nat):(Instr.makeMap 171 (some (.int .i64 (n:Int)))).run Tryz.prog w= .ok (.map (some w.heap.size)) (w.alloc (.map #[] 0)):=by
 simp [Instr.makeMap,run_underlying Tryz.underlying171,asInt,asIntOf,Result.andThen]
namespace Js
def keysN (Q:List Pt) (k:Nat):List (List UInt8):=((Q.take k).map ptKey).reverse
theorem keysN_succ (Q:List Pt) (k:Nat) (h:k < Q.length):keysN Q (k+1)=ptKey Q[k]::keysN Q k:=by
 unfold keysN
 rw [List.take_succ_eq_append_getElem h,List.map_append,List.reverse_append]
 rfl
theorem keysN_len (Q:List Pt) (k:Nat) (h:k≤Q.length):(keysN Q k).length=k:=by
 unfold keysN
 rw [List.length_reverse,List.length_map,List.length_take]
 omega
theorem keysN_all (Q:List Pt):(keysN Q Q.length).Nodup↔(Q.map ptKey).Nodup:=by
 unfold keysN
 rw [List.take_length]
 exact (List.reverse_perm _).nodup_iff
theorem keys_map (Q:List Pt):(Q.map (·.row)).map Js.keyOf=Q.map ptKey:=by rw [List.map_map];rfl
end Js
set_option maxRecDepth 100000 in
set_option maxHeartbeats 4000000 in
theorem js_areKeys (w:World) (B b:Nat) (A:Option Addr) (n:Nat) (Q:List Pt) (k:Int) (h:RowsAt w B b A n Q) (hA:A=none→n=0) (hn:n≤250000) (hT:TabOk w) (hk:∀p∈Q,(ptKey p).length≤1000000000):
  Calls Tryz.prog 121 #[.slice A n n, .int .i64 k] w fun e w'=> e= .returned (.bool (keysB (Q.map (·.row)) (decide (k=6))))∧Hid (Below w.heap.size w w'):=by
 have hlen:=h.len
 by_cases h6:k=6
 ·subst h6
  have hkB:keysB (Q.map (·.row)) (decide ((6:Int)=6))=((Q.map ptKey).all validF && decide (Q.map ptKey).Nodup):=by
   unfold keysB
   rw [keys_map]
   rfl
  rw [hkB]
  clear hkB
  obtain ⟨RV,hRV⟩:∃RV,RV=((Q.map ptKey).all validF && decide (Q.map ptKey).Nodup):=⟨_,rfl⟩
  rw [←hRV]
  have HRV:=Lib.hid hRV
  clear hRV
  have HL:=Lib.hid h
  have HK:=Lib.hid hk
  have HT:=Lib.hid hT
  have hmm:=fun W=> js_makeMap W n
  clear h hk hT
  go_enter Tryz.func121,Tryz.ntmps121
  go_wp2_with fail
  clear hmm
  go_loopg [18] n (fun g vk wx=> ∃j:Nat,vk= .int .i64 (j:Int)∧j+g=n∧Hid (wx.ownsMap Tryz.prog 9 (unitElem (H:=Unit)) w.heap.size j (keySet (keysN Q j)))∧Hid ((Q.map ptKey).all validF=((Q.drop j).map ptKey).all validF)∧Hid (Below w.heap.size w wx))
  case atStart=> exact ⟨0,rfl,by omega,Lib.hid (World.ownsMap_made _ _ _ _),Lib.hid rfl,Lib.hid ((Below.refl _ _).alloc (Nat.le_refl _) _)⟩
  case round=>
   obtain ⟨j,rfl,hjg,HO,HV,HB⟩:=hrel
   cases gk with
   | zero=>
    obtain rfl:j=n:=by omega
    have hge:¬(j:Int) < (j:Int):=by omega
    have HX:=Lib.hid (show RV=((Maps.size (keySet (keysN Q j)):Int)==(j:Int))from by
     rw [HRV.out,HV.out,List.drop_of_length_le (by omega),List.map_nil,List.all_nil,Bool.true_and]
     obtain ⟨s1,s2⟩:=keySet_size (keysN Q j)
     rw [keysN_len Q j (by omega)]at s1 s2
     rw [show j=Q.length from hlen.symm]at s2 ⊢
     rw [keysN_all]at s2
     by_cases hnd:(Q.map ptKey).Nodup
     ·rw [decide_eq_true hnd,s2.2 hnd]
      exact (beq_self_eq_true _).symm
     ·rw [decide_eq_false hnd]
      exact (beq_eq_false_iff_ne.2 fun e=> hnd (s2.1 (by omega))).symm)
    go_wp2_with (first
     | (at_len;refine wpList_len_own _ rfl _ 171 rfl 9 172 Tryz.underlying171 _ w.heap.size j _ rfl HO.out ?_))
    go_ret
    exact ⟨by rw [HX.out];rfl,HB⟩
   | succ g=>
    have hj:j < Q.length:=by omega
    obtain ⟨gb,rfl,hB,r⟩:=HL.out.at_ (by omega)
    have HIN:=Lib.hid (HL.out.ins Q[j] (List.getElem_mem hj))
    have cc:wr.cell? ⟨gb,j,none⟩=some (Pt.enc b Q[j]):=(r.below HB.out r.lt).cell (by rw [List.getElem?_map,List.getElem?_eq_getElem hj];rfl)
    have c1:=PtIn.key (show PtIn wr b Q[j]from PtIn.below (w:=w) HIN.out HB.out)
    have hr0:(0:Int) < (Q[j].row.length:Int):=by have:=HIN.out.1;omega
    have HVC:=Lib.hid (valid_sb (ptKey Q[j]) (by have:=HK.out Q[j] (List.getElem_mem hj);omega) wr (HT.out.below HB.out))
    have HKY:=Lib.hid (show keyOf Tryz.prog 9 (.string (sb (ptKey Q[j])))=some (keyL (ptKey Q[j]))from keyOf_string_mk Tryz.underlying9 (by have:=HK.out Q[j] (List.getElem_mem hj);rw [sb_size];unfold maxLen;omega))
    have HKS:=Lib.hid (keysN_succ Q j hj)
    have hjn:(j:Int) < (n:Int):=by omega
    have HD:=Lib.hid (show ((Q.drop j).map ptKey).all validF=(validF (ptKey Q[j]) && ((Q.drop (j+1)).map ptKey).all validF)from by rw [List.drop_eq_getElem_cons hj];rfl)
    unfold Pt.enc at cc
    clear r HIN
    generalize Q[j]=p at*
    obtain ⟨o1,cp1,row1⟩:=p
    dsimp only at*
    generalize row1.length=rl at*
    generalize hkk:ptKey ⟨o1,cp1,row1⟩=kk at*
    cases hv:validF kk with
    | false=>
     rw [hv]at HVC HD
     have HX:=Lib.hid (show RV=false by rw [HRV.out,HV.out,HD.out];rfl)
     clear HV HD HKS
     go_wp2_with fail
     refine HVC.out.mono ?_
     rintro e w2 ⟨rfl,B2⟩
     have HB2:=Lib.hid (HB.out.trans (B2.mono HB.out.size))
     clear B2 HVC cc c1
     go_wp2_with fail
     go_ret
     exact ⟨by rw [HX.out];rfl,HB2⟩
    | true=>
     rw [hv,Bool.true_and]at HD
     rw [hv]at HVC
     have HX:=Lib.hid (HV.out.trans HD.out)
     clear HV HD
     go_wp2_with fail
     refine HVC.out.mono ?_
     rintro e w2 ⟨rfl,B2⟩
     have HB2:=Lib.hid (HB.out.trans (B2.mono HB.out.size))
     have HO2:=Lib.hid (ownsMap_block HO.out (B2.block _ HO.out.lt))
     have c2:w2.cell? ⟨b,o1+1,none⟩=some (.string (sb kk)):=(kept_below B2).cell c1 (fun h=> h)
     clear B2 HVC c1 HO
     go_wp2_with (first
      | (at_mapUpdate;refine wpList_mapUpdate_own _ rfl _ _ _ 171 rfl 9 172 js_law Tryz.underlying171 (unitElem (H:=Unit)) w.heap.size j _ rfl HO2.out (by unfold maxLen;omega) _ _ _ rfl rfl HKY.out _ [] unitElem_mk ?_;intro w3 hown3 hgrow3))
     go_roundg g
     case measure=> omega
     case rel=> exact ⟨j+1,by go_num,by omega,Lib.hid (by rw [HKS.out,keySet_cons];exact hown3),HX,Lib.hid (HB2.out.grown hgrow3 HB2.out.size (fun i hi=> by cases hi;exact Nat.le_refl _))⟩
 ·have hkB:keysB (Q.map (·.row)) (decide (k=6))= !(Q.any fun p=> !(ptKey p).isEmpty):=by
   unfold keysB
   rw [decide_eq_false h6,if_neg (by decide),keys_map,List.all_map]
   rw [List.not_any_eq_all_not]
   congr 1
   funext p
   simp only [Function.comp,Bool.not_not]
  rw [hkB]
  clear hkB
  have HC:=Lib.hid (js_contains w B b A n Q h hn)
  have hb6:(k !=6)=true:=bne_iff_ne.2 h6
  generalize (Q.any fun p=> !(ptKey p).isEmpty)=q at*
  clear h hk hT
  go_enter Tryz.func121,Tryz.ntmps121
  go_wp2_with fail
  refine HC.out.mono ?_
  rintro e w2 ⟨rfl,B2⟩
  have HB2:=Lib.hid B2
  clear B2 HC
  go_wp2_with fail
  go_ret
  exact ⟨rfl,HB2⟩
end Go.Proofs.YtgmangikcfakgaaGreatDoor
