import Derived.Test.YtgmangikcfakgaaGreatDoorPA24
set_option maxRecDepth 100000
set_option maxHeartbeats 40000000
namespace Go.Proofs.YtgmangikcfakgaaGreatDoor
open Go.RowKit Sh
def Dg.val16 (c:UInt8):Int:=if Dg.val c < 0 then 16 else Dg.val c
theorem Dg.val_num (c:UInt8):48≤c.toNat→c.toNat≤57→Dg.val16 c=n8 c - 48:=
 Dg.qfg (p:=fun c=> 48≤c.toNat→c.toNat≤57→Dg.val16 c=n8 c - 48) (by decide+kernel) c
theorem Dg.val_let (c:UInt8):97≤c.toNat→c.toNat≤102→Dg.val16 c=n8 c - 97+10:=
 Dg.qfg (p:=fun c=> 97≤c.toNat→c.toNat≤102→Dg.val16 c=n8 c - 97+10) (by decide+kernel) c
theorem Dg.val_non (c:UInt8):(c.toNat < 48∨(57 < c.toNat∧c.toNat < 97)∨102 < c.toNat)→Dg.val16 c=16:=
 Dg.qfg (p:=fun c=> (c.toNat < 48∨(57 < c.toNat∧c.toNat < 97)∨102 < c.toNat)→Dg.val16 c=16) (by decide+kernel) c
theorem qnf (c:UInt8) (w:World):Calls Tryz.prog 105 #[.int .u8 (n8 c)] w fun e w'=> e= .returned (.int .i64 (Dg.val16 c))∧w=w':=by
 have q0:=qec c
 have q1:=n8_lt c
 have hv1:=Dg.val_num c
 have hv2:=Dg.val_let c
 have hv3:=Dg.val_non c
 have hn:(c.toNat:Int)=n8 c:=rfl
 have h1:48≤n8 c→n8 c≤57→Dg.val16 c=n8 c - 48:=fun a b=> hv1 (by omega) (by omega)
 have h2:97≤n8 c→n8 c≤102→Dg.val16 c=n8 c - 97+10:=fun a b=> hv2 (by omega) (by omega)
 have h3:(n8 c < 48∨(57 < n8 c∧n8 c < 97)∨102 < n8 c)→Dg.val16 c=16:=fun a=> hv3 (by omega)
 clear hv1 hv2 hv3 hn
 generalize Dg.val16 c=v at*
 generalize n8 c=n at*
 have hc:(48≤n∧n≤57)∨(97≤n∧n≤102)∨n < 48∨(57 < n∧n < 97)∨102 < n:=by omega
 rcases hc with ⟨a,b⟩ | ⟨a,b⟩ | a | ⟨a,b⟩ | a
 ·have e:=h1 a b
  subst e;clear h1 h2 h3;go_enter Tryz.func105,Tryz.ntmps105
  go_wp2
  go_ret;exact ⟨rfl,rfl⟩
 ·have e:=h2 a b
  subst e;clear h1 h2 h3;go_enter Tryz.func105,Tryz.ntmps105
  go_wp2
  go_ret;exact ⟨rfl,rfl⟩
 ·have e:=h3 (by omega)
  subst e;clear h1 h2 h3;go_enter Tryz.func105,Tryz.ntmps105
  go_wp2
  go_ret;exact ⟨rfl,rfl⟩
 ·have e:=h3 (by omega)
  subst e;clear h1 h2 h3;go_enter Tryz.func105,Tryz.ntmps105
  go_wp2
  go_ret;exact ⟨rfl,rfl⟩
 ·have e:=h3 (by omega)
  subst e;clear h1 h2 h3;go_enter Tryz.func105,Tryz.ntmps105
  go_wp2
  go_ret;exact ⟨rfl,rfl⟩
theorem Dg.parse_cases (s:List UInt8):(s.length≠71∧Dg.parse s=none)∨(s.length=71∧s.take 7≠Dg.pre∧Dg.parse s=none)∨(s.length=71∧s.take 7=Dg.pre∧(s.drop 7).length=64∧Dg.parse s=Dg.unpair (s.drop 7)):=by
 by_cases hp:Lib.hasPrefix s Dg.pre=true
 ·obtain ⟨t,rfl⟩:=(Dg.qci s).1 hp
  have h7:Dg.pre.length=7:=rfl
  rw [Dg.qng];by_cases h:t.length=64
  ·refine .inr (.inr ⟨by rw [List.length_append];omega,by rw [←h7,List.take_left],by rw [←h7,List.drop_left];exact h, ?_⟩)
   rw [if_pos h,←h7,List.drop_left]
  ·exact .inl ⟨by rw [List.length_append];omega,if_neg h⟩
 ·have hn:Dg.parse s=none:=if_neg (fun h=> hp h.1)
  by_cases hl:s.length=71
  ·refine .inr (.inl ⟨hl,fun e=> hp ?_,hn⟩)
   rw [Dg.qci];exact ⟨s.drop 7,by rw [←e,List.take_append_drop]⟩
  ·exact .inl ⟨hl,hn⟩
theorem qm3 {x:UInt8} (h:Dg.val x < 0):Dg.val16 x=16:=if_pos h
theorem qii {x:UInt8} (h:¬Dg.val x < 0):Dg.val16 x=Dg.val x:=if_neg h
theorem qyu (a b:Int) (a0:0≤a) (a1:a < 16) (b0:0≤b) (b1:b < 16) (z:UInt8) (hz:z=UInt8.ofNat (16*a.toNat+b.toNat)):Value.int .u8 (16*a+b)=v8 z:=by
 rw [hz,v8,n8,UInt8.toNat_ofNat']
 congr 1
 omega
theorem qqf (s:List UInt8) (hs:s.length≤1000000000) (w:World):
  Calls Tryz.prog 66 #[.string ⟨s.toArray⟩] w fun e w'=> e= .returned (.tuple #[.agg ((Dg.orZero (Dg.parse s)).map v8).toArray, .bool (Dg.parse s).isSome])∧Below w.heap.size w w':=by
 have hcs:=Dg.parse_cases s
 generalize Dg.parse s=P at*
 have hb:=qer
 have hz32:=zero32
 have hZl:(List.replicate 32 (v8 0)).length=32:=rfl
 have hZ1:=qbl v8 (fun _=> rfl) (List.replicate 32 0)
 rw [List.map_replicate]at hZ1
 have r0:Row ((w.alloc (.cells (List.replicate 32 (v8 0)).toArray 52)).alloc (.cells (List.replicate 32 (v8 0)).toArray 52)) w.heap.size 52 (List.replicate 32 (v8 0)):=(Row.at_ _ _ _ rfl rfl).alloc _
 have r1:Row ((w.alloc (.cells (List.replicate 32 (v8 0)).toArray 52)).alloc (.cells (List.replicate 32 (v8 0)).toArray 52)) (w.heap.size+1) 52 (List.replicate 32 (v8 0)):=Row.at_ _ _ _ rfl (by simp)
 have k0:Below w.heap.size w ((w.alloc (.cells (List.replicate 32 (v8 0)).toArray 52)).alloc (.cells (List.replicate 32 (v8 0)).toArray 52)):=((Below.refl _ _).alloc (Nat.le_refl _) _).alloc (by simp) _
 go_enter Tryz.func66,Tryz.ntmps66
 go_upto_region 2 with fail
 generalize hW:World.alloc _ _=W0 at r0 r1 k0
 generalize hW':World.alloc _ _=W0'
 obtain rfl:W0=W0':=hW.symm.trans hW'
 clear hW hW'
 generalize hZ:List.replicate 32 (v8 0)=Z at*
 have HZ32:=Qh hz32
 have HZ:=Qh hZ
 have HB:=Qh hb
 have HZL:=Qh hZl
 have HZ1:=Qh hZ1
 have R0:=Qh r0
 have R1:=Qh r1
 have K0:=Qh k0
 clear hZ hb hZl hZ1 r0 r1 k0 hz32
 rcases hcs with ⟨hl,rfl⟩ | ⟨hl,hp,rfl⟩ | ⟨hl,hp,ht,hP⟩
 ·have hl':((s.length:Int) !=71)=true:=by rw [bne_iff_ne];omega
  clear hl;go_wp2_with (first
   | ((with_reducible refine qg6 ?_ (.tmp 4) ?_ (w.heap.size+1) Z HZL.out ?_ ?_ ?_);rfl;rfl;go_must (rfl;exact R1.out))
   | ((with_reducible refine wpList_store_row ?_ 52 (.tmp 2) (.tmp 16) ?_ w.heap.size Z.toArray ?_ ?_ 52 Z.toArray ?_ ?_ ?_ HZ1.out ?_);rfl;rfl;go_must (rfl;(first | rfl | (rw [←HZ.out];rfl));exact R0.out;(rw [List.size_toArray,HZL.out];kernel_rfl);rfl)))
  exact bodyPost_ret (v:= .tuple #[.agg Z.toArray, .bool false]) (qae (fn:=Tryz.f66) (p:=2) (u:=3) rfl _ _ w.heap.size _ Z.toArray _ _ rfl (setRow_heap _ w.heap.size _ _ _ _ R0.out) Tryz.underlying52 rfl (by rw [List.size_toArray,HZL.out];kernel_rfl)) rfl ⟨by rw [HZ32.out];rfl,below_setRow K0.out (Nat.le_refl _) _⟩
 ·have e1:(((⟨s.toArray⟩:ByteArray).extract 0 7).toList==[115,104,97,50,53,54,58])=false:=by
   rw [beq_eq_false_iff_ne,Lib.extract_toList];exact hp
  have HL:=Qh hl
  have hl':((s.length:Int) !=71)=false:=by rw [bne_eq_false_iff_eq];omega
  have hl2:7≤s.length:=by omega
  clear hl hp;go_wp2_with (first
   | ((with_reducible refine qg6 ?_ (.tmp 4) ?_ (w.heap.size+1) Z HZL.out ?_ ?_ ?_);rfl;rfl;go_must (rfl;exact R1.out))
   | ((with_reducible refine wpList_store_row ?_ 52 (.tmp 2) (.tmp 16) ?_ w.heap.size Z.toArray ?_ ?_ 52 Z.toArray ?_ ?_ ?_ HZ1.out ?_);rfl;rfl;go_must (rfl;(first | rfl | (rw [←HZ.out];rfl));exact R0.out;(rw [List.size_toArray,HZL.out];kernel_rfl);rfl)))
  exact bodyPost_ret (v:= .tuple #[.agg Z.toArray, .bool false]) (qae (fn:=Tryz.f66) (p:=2) (u:=3) rfl _ _ w.heap.size _ Z.toArray _ _ rfl (setRow_heap _ w.heap.size _ _ _ _ R0.out) Tryz.underlying52 rfl (by rw [List.size_toArray,HZL.out];kernel_rfl)) rfl ⟨by rw [HZ32.out];rfl,below_setRow K0.out (Nat.le_refl _) _⟩
 ·have e1:((⟨s.toArray⟩:ByteArray).extract 0 7).toList=[115,104,97,50,53,54,58]:=by
   rw [Lib.extract_toList];exact hp
  have HL:=Qh hl
  have HT:=Qh ht
  have HPP:=Qh hP
  have hl':((s.length:Int) !=71)=false:=by rw [bne_eq_false_iff_eq];omega
  have hl2:7≤s.length:=by omega
  have h0:ParseAt w W0 (s.drop 7) [] 0:=⟨by rw [HZ.out];exact R0.out,by have h:=R1.out;rw [←HZ.out]at h;exact h,rfl,K0.out,by cases h:Dg.unpair (s.drop 7) <;> simp [h]⟩
  have H0:=Qh h0
  clear hl hp ht hP h0;go_wp2_with fail;go_loopw [5] (fun i wr=> ∃(k:Nat) (p:List UInt8),k≤32∧i= .int .i64 k∧Hid (ParseAt w wr (s.drop 7) p k)) (fun i _=> 32 - (intOf i).toNat)
  case atStart=> exact ⟨0,[],Nat.zero_le _,rfl,H0⟩
  case round=>
   obtain ⟨k,p,hk,rfl,hs⟩:=hrel
   by_cases hlt:k < 32
   ·have l0:0≤(k:Int)∧(k:Int) < 32:=by omega
    have g1:(s.drop 7).getD (2*k) 0=s.getD (7+2*k) 0:=by simp [List.getD]
    have g2:(s.drop 7).getD (2*k+1) 0=s.getD (8+2*k) 0:=by
     simp only [List.getD,List.getElem?_drop]
     rw [show 7+(2*k+1)=8+2*k by omega]
    have hi1:∀W,(Instr.index 9 (.string ⟨s.toArray⟩) (.int .i64 (7+2*(k:Int)))).run Tryz.prog W= .ok (.int .u8 (n8 ((s.drop 7).getD (2*k) 0))) W:=fun W=> by
     have h:=qfx s (7+2*k) (by rw [HL.out];omega) W
     rw [g1];rwa [Int.natCast_add,Int.natCast_mul]at h
    have hi2:∀W,(Instr.index 9 (.string ⟨s.toArray⟩) (.int .i64 (8+2*(k:Int)))).run Tryz.prog W= .ok (.int .u8 (n8 ((s.drop 7).getD (2*k+1) 0))) W:=fun W=> by
     have h:=qfx s (8+2*k) (by rw [HL.out];omega) W
     rw [g2];rwa [Int.natCast_add,Int.natCast_mul]at h
    have hbad:=qvt hs.out HT.out hlt
    have hgood:=qsh hs.out HT.out hlt
    clear g1 g2;generalize (s.drop 7).getD (2*k) 0=x at*;generalize (s.drop 7).getD (2*k+1) 0=y at*;have hbo:Dg.byteOf x y=UInt8.ofNat (16*(Dg.val x).toNat+(Dg.val y).toNat):=rfl
    have rx:=Dg.qdf x
    have ry:=Dg.qdf y
    have HBAD:=Qh hbad
    have HGOOD:=Qh hgood
    have HBO:=Qh hbo
    clear hbad hgood hbo;obtain ⟨rx0,rx1⟩:=rx
    obtain ⟨ry0,ry1⟩:=ry
    have HCX:=Qh (qnf x)
    have HCY:=Qh (qnf y)
    by_cases hbd:Dg.val x < 0∨Dg.val y < 0
    ·have hPn:P=none:=by rw [HPP.out,HBAD.out hbd]
     subst hPn;have hr:=hs.out.res
     rw [HZ.out]at hr
     have HZR:=Qh hr
     have hvs:(Dg.val16 x=16)∨(Dg.val16 x≤15∧Dg.val16 y=16):=by
      by_cases hx0:Dg.val x < 0
      ·exact .inl (qm3 hx0)
      ·exact .inr ⟨by rw [qii hx0];omega,qm3 (hbd.resolve_left hx0)⟩
     clear hr hbd;generalize Dg.val x=vx at*;generalize Dg.val y=vy at*;generalize Dg.val16 x=ux at*;generalize Dg.val16 y=uy at*;go_wp2_with fail;refine (HCX.out _).mono ?_
     rintro e w3 ⟨rfl,rfl⟩;go_wp2_with fail;refine (HCY.out _).mono ?_
     rintro e w4 ⟨rfl,rfl⟩;rcases hvs with rfl | ⟨hu,rfl⟩
     all_goals
      go_wp2_with (first
       | ((with_reducible refine wpList_build_is ?_ 52 #[] ?_ Z.toArray ?_ ?_);rfl;rfl;go_must (refine Eq.trans ?_ HB.out;kernel_rfl))
       | ((with_reducible refine wpList_store_row ?_ 52 (.tmp 2) (.tmp 39) ?_ w.heap.size Z.toArray ?_ ?_ 52 Z.toArray ?_ ?_ ?_ HZ1.out ?_);rfl;rfl;go_must (rfl;(first | rfl | (rw [←HZ.out];rfl));exact HZR.out;(rw [List.size_toArray,HZL.out];kernel_rfl);rfl)))
      exact bodyPost_ret (v:= .tuple #[.agg Z.toArray, .bool false]) (qae (fn:=Tryz.f66) (p:=2) (u:=3) rfl _ _ w.heap.size _ Z.toArray _ _ rfl (setRow_heap _ w.heap.size _ _ _ _ HZR.out) Tryz.underlying52 rfl (by rw [List.size_toArray,HZL.out];kernel_rfl)) rfl ⟨by first | (rw [HZ32.out];rfl) | rw [HZ32.out],below_setRow hs.out.below (Nat.le_refl _) _⟩
    ·have ex:Dg.val16 x=Dg.val x:=qii (fun h=> hbd (.inl h))
     have ey:Dg.val16 y=Dg.val y:=qii (fun h=> hbd (.inr h))
     have hgx:0≤Dg.val x:=by omega
     have hgy:0≤Dg.val y:=by omega
     rw [ex]at HCX
     rw [ey]at HCY
     have hv:=qyu (Dg.val x) (Dg.val y) hgx rx1 hgy ry1 _ HBO.out
     have HV:=Qh hv
     have HBD:=Qh hbd
     clear ex ey hv hbd;generalize Dg.val x=vx at*;generalize Dg.val y=vy at*;obtain ⟨u,hc1⟩:∃u,wr.cell? ⟨w.heap.size+1,k,none⟩=some u:=⟨_,hs.out.row.cell (List.getElem?_eq_getElem (by rw [List.length_map,List.length_append,List.length_replicate,hs.out.len];omega))⟩
     have f1:=hs.out.row.frozen k
     go_wp2_with fail;refine (HCX.out _).mono ?_
     rintro e w3 ⟨rfl,rfl⟩;go_wp2_with fail;refine (HCY.out _).mono ?_
     rintro e w4 ⟨rfl,rfl⟩;go_wp2_with fail;go_roundw
     case rel=>
      refine ⟨k+1,p++[Dg.byteOf x y],by omega,by go_num,hs.out.res.other (by simp) _, ?_,by rw [List.length_append,hs.out.len];rfl,hs.out.below.setCell (by simp) _,HGOOD.out HBD.out⟩
      rw [HV.out,←ParseAt.set hs.out.len hlt];exact hs.out.row.set k _
     case measure=> simp [intOf] <;> omega
   ·have hge:(32:Int)≤(k:Int):=by omega
    have hk32:k=32:=by omega
    have hw:Row wr (w.heap.size+1) 52 (p.map v8):=by have h:=hs.out.row;rwa [hk32,show 32 - 32=0 from rfl,List.replicate_zero,List.append_nil]at h
    have hz:Row wr w.heap.size 52 Z:=by rw [←HZ.out];exact hs.out.res
    have hPp:P=some p:=by
     rw [HPP.out,hs.out.un,hk32,List.drop_of_length_le (by rw [HT.out];omega)]
     simp [Dg.unpair]
    subst hPp;have hl:(p.map v8).length=32:=by rw [List.length_map,hs.out.len];omega
    have h1:=qbl v8 (fun _=> rfl) p
    have ho:(Dg.orZero (some p)).map v8=p.map v8:=rfl
    generalize hDD:p.map v8=D at*;have HO:=Qh ho
    clear ho;unfold Row at hw hz;have HW:=Qh hw
    have HZR:=Qh hz
    have HDL:=Qh hl
    have H1:=Qh h1
    clear hw hz hl h1 hk32 hDD;go_wp2_with (first
     | ((with_reducible refine qg6 ?_ (.tmp 4) ?_ (w.heap.size+1) D HDL.out ?_ ?_ ?_);rfl;rfl;go_must (rfl;exact HW.out))
     | ((with_reducible refine wpList_store_row ?_ 52 (.tmp 2) (.tmp 47) ?_ w.heap.size D.toArray ?_ ?_ 52 Z.toArray ?_ ?_ ?_ ?_ ?_);rfl;rfl;go_must (rfl;(first | rfl | (rw [←HZ.out];rfl));exact HZR.out;(simp only [List.size_toArray,HDL.out];kernel_rfl);(simp only [List.size_toArray,HZL.out,HDL.out]);exact H1.out)))
    exact bodyPost_ret (v:= .tuple #[.agg D.toArray, .bool true]) (qae (fn:=Tryz.f66) (p:=2) (u:=3) rfl _ _ w.heap.size _ D.toArray _ _ rfl (setRow_heap _ w.heap.size _ _ _ _ HZR.out) Tryz.underlying52 rfl (by rw [List.size_toArray,HDL.out];kernel_rfl)) rfl ⟨by rw [HO.out];rfl,below_setRow hs.out.below (Nat.le_refl _) _⟩
end Go.Proofs.YtgmangikcfakgaaGreatDoor
