import Derived.Test.YtmkjcleecjjchaaGreatDoorQ40
import Derived.Test.YtmkjcleecjjchaaGreatDoorQ41
import Derived.Test.YtmkjcleecjjchaaGreatDoorQ30
import Derived.Test.YtmkjcleecjjchaaGreatDoorQ44
import Derived.Test.YtmkjcleecjjchaaGreatDoorQ45
namespace Go.Proofs.YtmkjcleecjjchaaGreatDoor
open Go.RowKit Sh Jt Js Jo
set_option maxRecDepth 100000
theorem RmAt.kept {w wr w':World} {S:Nat→Prop} (h:RmAt w wr) (k:Kept wr w' S) (hS:∀i,S i→w.heap.size < i):RmAt w w':=
 ⟨h.res.of_block (k.block _ h.res.lt (fun e=> Nat.lt_irrefl _ (hS _ e))),h.below.trans (k.below h.below.size (fun i hi e=> by have:=hS i e;omega))⟩
namespace Jo
theorem manR_no {L:List V} (h:hasF L=false∨descF (ofKey L configK)=none∨getA L 0 layersK=none∨∃k,getA L 0 layersK=some k∧kindOf (L.drop k)≠5):manF L= .err 3:=by
 rcases h with h | h | h | ⟨k,h,h5⟩
 ·exact man_no (.inl h)
 ·exact man_no (.inr (.inl h))
 ·refine man_no (.inr (.inr ?_))
  rw [key_none h]
  rfl
 ·refine man_no (.inr (.inr ?_))
  obtain ⟨hp,h1,_⟩:=get_head h
  rw [List.drop_eq_getElem_cons hp]at h5
  unfold descsF
  rw [if_neg (by rw [h1];exact h5)]
theorem short_cutR {k:Nat} {L:List V} (h:Short k L) (a:Int):Short k (cutA L a):=by
 unfold cutA
 split
 ·exact short_named (short_take (short_drop h _) _) (Nat.zero_le _)
 ·exact fun v hv=> by cases hv
theorem lay_few {L:List V} (hr:rightPF L=true) {k:Nat} (hg:getA L 0 layersK=some k) (h5:kindOf (L.drop k)=5):(partsL (ofKey L layersK)).length≤5000:=by
 obtain ⟨hp,h1,_⟩:=get_head hg
 rw [List.drop_eq_getElem_cons hp]at h5
 have h6:L[k].kind=5:=h5
 rw [h6]at h1
 rcases key_or hr layersK with e | hR
 ·rw [e]at h1
  cases h1
 ·match hX:ofKey L layersK,hR,h1 with
  | v::r,hR,h1=>
   obtain ⟨P,hP⟩:=lst_is hR h1
   rw [hP.parts]
   exact hP.few
theorem lay_all {L:List V} {k:Nat} (hg:getA L 0 layersK=some k) (h5:kindOf (L.drop k)=5):descsF (ofKey L layersK)=allD (partsL (ofKey L layersK)):=by
 obtain ⟨hp,h1,_⟩:=get_head hg
 rw [List.drop_eq_getElem_cons hp]at h5
 unfold descsF
 rw [if_pos (by rw [h1];exact h5)]
end Jo
theorem built_man1 (x0 x1 x2 x3 x4 x5 x6 x7 x8 x9 x10 x11 x12 x13 x14 x15 x16 x17 x18 x19 x20 x21 x22 x23 x24 x25 x26 x27 x28 x29 x30 x31 x32 x33:Value):Tryz.prog.built 31 [(0, .agg #[x0,x1,x2,x3,x4,x5,x6,x7,x8,x9,x10,x11,x12,x13,x14,x15,x16,x17,x18,x19,x20,x21,x22,x23,x24,x25,x26,x27,x28,x29,x30,x31,x32,x33])]=some #[x0,x1,x2,x3,x4,x5,x6,x7,x8,x9,x10,x11,x12,x13,x14,x15,x16,x17,x18,x19,x20,x21,x22,x23,x24,x25,x26,x27,x28,x29,x30,x31,x32,x33, .slice none 0 0, .slice none 0 0]:=by kernel_rfl
theorem built_manC1:∀C:List Value,C.length=34→Tryz.prog.built 31 [(0, .agg C.toArray)]=some (C++[Value.slice none 0 0,Value.slice none 0 0]).toArray
 | x0::x1::x2::x3::x4::x5::x6::x7::x8::x9::x10::x11::x12::x13::x14::x15::x16::x17::x18::x19::x20::x21::x22::x23::x24::x25::x26::x27::x28::x29::x30::x31::x32::x33::[],_=> built_man1 x0 x1 x2 x3 x4 x5 x6 x7 x8 x9 x10 x11 x12 x13 x14 x15 x16 x17 x18 x19 x20 x21 x22 x23 x24 x25 x26 x27 x28 x29 x30 x31 x32 x33
theorem built_manC {c:Desc} (h:c.dig.length=32):Tryz.prog.built 31 [(0, .agg (dv c).toArray)]=some (mv c (.slice none 0 0) (.slice none 0 0)).toArray:=built_manC1 (dv c) (dv_len h)
theorem mv_set34 {c:Desc} (h:c.dig.length=32) (a:Value) {b x:Value}:(mv c a b).set 34 x=mv c x b:=by
 have hl:=dv_len h
 unfold mv
 rw [List.set_append_right _ _ (by omega),hl]
 rfl
theorem mv_set35 {c:Desc} (h:c.dig.length=32) {a b x:Value}:(mv c a b).set 35 x=mv c a x:=by
 have hl:=dv_len h
 unfold mv
 rw [List.set_append_right _ _ (by omega),hl]
 rfl
set_option maxHeartbeats 16000000 in
theorem mt_rparse (w:World) (A:Option Addr) (n c:Nat) (bs:List UInt8) (hB:BytesAt w A n c bs) (hn:n≤250000000):
  Calls Tryz.prog 10 #[.slice A n c] w (ManPost w (parseM bs)):=by
 obtain ⟨R,hR⟩:∃R,parseM bs=R:=⟨_,rfl⟩
 rw [hR]
 have HR:=Lib.hid hR
 have HPA:=Lib.hid (fun W (q:Below w.heap.size w W)=> js_rparse W A n c bs (hB.below q) (by omega))
 have HSH:=Lib.hid (fun k l r (h:parseF bs= .ok k l r)=> show Short 1000000000 l from short_more (parse_short h) (by have:=hB.len;omega))
 clear hR hB
 unfold parseM at HR
 generalize hQ:parseF bs=Q at*
 have HQ:=Lib.hid hQ
 clear hQ
 go_enter Tryz.func10,Tryz.ntmps10
 go_upto_region 1 with fail
 have P0:Hid (RmAt w (w.alloc (Obj.cells (mv noD (.slice none 0 0) (.slice none 0 0)).toArray 31))):=Lib.hid (RmAt.new w rfl)
 generalize hW0:w.alloc (Obj.cells (mv noD (.slice none 0 0) (.slice none 0 0)).toArray 31)=w0 at P0
 generalize hW:World.alloc _ _=W'
 obtain rfl:w0=W':=hW0.symm.trans hW
 clear hW hW0
 go_wp2_with fail
 refine (HPA.out w0 P0.out.below).mono ?_
 intro e w1 hp
 cases Q with
 | err k=>
  obtain ⟨rfl,hk,K1⟩:=hp
  have P1:=Lib.hid (P0.out.next K1)
  have HRR:Hid (R= .err k):=Lib.hid HR.out.symm
  have hb:((k:Int) !=0)=true:=by rw [bne_iff_ne];omega
  clear P0 K1 HPA HR
  have HK:=Lib.hid hk
  clear hk
  go_wp2_with (first
   | ((with_reducible refine build_all ?_ 31 #[] ?_ (mv noD (.slice none 0 0) (.slice none 0 0)).toArray ?_ ?_);rfl;rfl;go_must (refine Eq.trans ?_ built_manZ;kernel_rfl))
   | ((with_reducible refine store_all ?_ 31 (.tmp 2) (.tmp 21) ?_ w.heap.size (mv noD (.slice none 0 0) (.slice none 0 0)) ?_ ?_ (mv noD (.slice none 0 0) (.slice none 0 0)) ?_ ?_ ?_ ?_ ?_);rfl;rfl;go_must (rfl;rfl;rfl;exact P1.out.res;exact mv_size noD_len;exact mv_one rfl rfl;intro wz Rz Kz Ez)))
  refine bodyPost_ret (v:= .tuple #[.agg (mv noD (.slice none 0 0) (.slice none 0 0)).toArray, .int .i64 (k:Nat)]) (results_row_tmp (fn:=Tryz.f10) (p:=2) (u:=3) rfl _ _ w.heap.size _ (mv noD (.slice none 0 0) (.slice none 0 0)).toArray _ _ rfl Rz.out Tryz.underlying31 rfl (mv_sizeA noD_len)) rfl ?_
  rw [HRR.out]
  exact ⟨rfl,HK.out,own_row P1.out.below Kz.out⟩
 | ok k L r=>
  obtain ⟨v1,rfl,O1,K1⟩:=hp
  have P1:=Lib.hid (P0.out.next K1)
  obtain ⟨A1,c1,rfl,hv1,_⟩:=O1.vals
  have HV1:=Lib.hid hv1
  have hpar:=parse_right HQ.out
  obtain ⟨t,ht⟩:=hpar.2.2
  have HRT:=Lib.hid ((prog_is L).2 ⟨t,ht⟩)
  have hl5:L.length≤5000:=ht.1
  have HS:=Lib.hid (show Short 1000000000 L from HSH.out k L r rfl)
  have HMN:Hid (R=manF L):=Lib.hid HR.out.symm
  clear P0 K1 HPA HR O1 hv1 hpar ht HQ HSH
  have HT:=Lib.hid (fun W (q:Below w1.heap.size w1 W)=> mt_rtwo W A1 L.length c1 L (HV1.out.below q) (by omega) HS.out)
  have HGC:=Lib.hid (fun W (q:Below w1.heap.size w1 W)=> jo_rget W A1 L.length c1 L (HV1.out.below q) (by omega) HS.out 0 configK)
  have HGL:=Lib.hid (fun W (q:Below w1.heap.size w1 W)=> jo_rget W A1 L.length c1 L (HV1.out.below q) (by omega) HS.out 0 layersK)
  have HCC:=Lib.hid (fun W (q:Below w1.heap.size w1 W)=> own_any (L:=ofKey L configK) rfl (jo_rcut W A1 L.length c1 L (HV1.out.below q) (by omega) HS.out (plc (getA L 0 configK))))
  have HIT:=Lib.hid (fun W (q:Below w1.heap.size w1 W) (a j:Int)=> jo_ritem W A1 L.length c1 L (HV1.out.below q) (by omega) HS.out a j)
  have HCT:=Lib.hid (fun W (q:Below w1.heap.size w1 W) (X:List V) (a:Int) (e:cutA L a=X)=> own_any (f:=33) (args:=#[.slice A1 L.length c1, .int .i64 a]) (W:=W) (L:=X) rfl (by rw [←e];exact jo_rcut W A1 L.length c1 L (HV1.out.below q) (by omega) HS.out a))
  have HDC:=Lib.hid (fun W (q:Below w1.heap.size w1 W)=> own_any (L:=dropA L configK) rfl (jo_rdrop W A1 L.length c1 L (HV1.out.below q) (by omega) HS.out configK))
  have HVC:=Lib.hid (fun W (q:Below w1.heap.size w1 W)=> HV1.out.below q)
  have HKS:=Lib.hid (short_key HS.out configK)
  have HKT:=Lib.hid (fun (a:Int)=> show Short 1000000000 (cutA L a)from short_cutR HS.out a)
  have hk1:=key_len L configK
  have HCL:=Lib.hid (fun (a:Int)=> cutA_len L a)
  have hd1:=drop_few (L:=L) configK
  have HSD:=Lib.hid (short_dropA HS.out (key:=configK))
  have HNO:=Lib.hid (manR_no (L:=L))
  have HOK:=Lib.hid (fun c ls=> man_ok (L:=L) (c:=c) (ls:=ls))
  have HLP:=Lib.hid (fun k (hg:getA L 0 layersK=some k) (h5:kindOf (L.drop k)=5)=> And.intro (lay_parts hg h5) (lay_all hg h5))
  have HFW:=Lib.hid (fun k (hg:getA L 0 layersK=some k) h5=> lay_few HRT.out hg h5)
  have HGP:=Lib.hid (fun k (hg:getA L 0 layersK=some k)=> (get_head hg).1)
  change Hid (∀W,_→Calls _ _ #[_,_, .string ⟨#[99,111,110,102,105,103]⟩] _ _)at HGC
  change Hid (∀W,_→Calls _ _ #[_,_, .string ⟨#[108,97,121,101,114,115]⟩] _ _)at HGL
  change Hid (∀W,_→Calls _ _ #[_, .string ⟨#[99,111,110,102,105,103]⟩] _ _)at HDC
  clear HS HRT HV1
  have B1:=Lib.hid (Below.refl w1.heap.size w1)
  go_wp2_with fail
  refine (HT.out w1 B1.out).mono ?_
  rintro e w2 ⟨rfl,K2⟩
  have P2:=Lib.hid (P1.out.next K2.out)
  have B2:=Lib.hid (B1.out.trans (K2.out.mono B1.out.size))
  clear P1 K2 HT B1
  go_wp2_with fail
  refine (HGC.out w2 B2.out).mono ?_
  rintro e w3 ⟨rfl,K3⟩
  have P3:=Lib.hid (P2.out.next K3.out)
  have B3:=Lib.hid (B2.out.trans (K3.out.mono B2.out.size))
  clear P2 K3 HGC B2
  go_wp2_with fail
  refine (HCC.out w3 B3.out).mono ?_
  rintro e w4 ⟨A4,c4,rfl,K4⟩
  have P4:=Lib.hid (P3.out.next K4.out.2.2)
  have B4:=Lib.hid (B3.out.trans (K4.out.2.2.mono B3.out.size))
  have HV4:=Lib.hid K4.out.2.1
  clear P3 K4 HCC B3
  generalize plc (getA L 0 configK)=zc at*
  go_wp2_with fail
  refine (mt_rdesc w4 A4 (ofKey L configK).length c4 (ofKey L configK) HV4.out (by omega) HKS.out).mono ?_
  rintro e w5 ⟨rfl,K5⟩
  have P5:=Lib.hid (P4.out.next K5.out)
  have B5:=Lib.hid (B4.out.trans (K5.out.mono B4.out.size))
  clear P4 K5 HV4 B4
  have hdi:∀d,descF (ofKey L configK)=some d→d.dig.length=32:=fun d h=> (desc_inv h).2.1
  generalize descF (ofKey L configK)=o1 at*
  have hod:(orD o1).dig.length=32:=by
   cases o1 with
   | none=> rfl
   | some d=> exact hdi d rfl
  obtain ⟨d,hd⟩:∃d,d=orD o1:=⟨_,rfl⟩
  rw [←hd]at hod ⊢
  have HDVd:=Lib.hid hod
  have HD:=Lib.hid hd
  clear hod hd hdi
  go_upto_region 6 with ((with_reducible refine store_all ?_ 27 (.tmp 7) (.tmp 31) ?_ w5.heap.size (dv d) ?_ ?_ (dv noD) ?_ ?_ ?_ ?_ ?_);rfl;rfl;go_must (rfl;rfl;(rw [dv_len HDVd.out];rfl);exact Row.at_ _ _ _ rfl rfl;exact dv_size HDVd.out;exact dv_all _;intro w6 Rw6 Kw6 Ew6))
  have KBw6:=Lib.hid (show Below w5.heap.size w5 w6 from (kept_stored Kw6.out).below (Nat.le_refl _) (fun _ _ h=> h))
  clear Kw6 Ew6
  have P6:=Lib.hid (P5.out.next KBw6.out)
  have B6:=Lib.hid (B5.out.trans (KBw6.out.mono B5.out.size))
  have hq4:w.heap.size < w5.heap.size:=P5.out.res.lt
  clear P5 KBw6 B5
  generalize w5.heap.size=q at Rw6 hq4 ⊢
  go_wp2_with fail
  refine (HGL.out w6 B6.out).mono ?_
  rintro e w7 ⟨rfl,K7⟩
  have P7:=Lib.hid (P6.out.next K7.out)
  have B7:=Lib.hid (B6.out.trans (K7.out.mono B6.out.size))
  have R7:=Lib.hid (show Row w7 q 27 (dv d)from Rw6.out.below K7.out Rw6.out.lt)
  clear P6 K7 HGL B6 Rw6
  have pl0:plc none= -1:=rfl
  have pls:∀q:Nat,plc (some q)=(q:Int):=fun _=> rfl
  generalize hasF L=hf at*
  cases hf with
  | false=>
   have HRR:Hid (R= .err 3):=Lib.hid (by rw [HMN.out];exact HNO.out (.inl rfl))
   clear HMN HNO HOK HLP pl0 pls
   generalize o1.isSome=b1
   generalize plc (getA L 0 layersK)=zl
   go_wp2_with (first
    | ((with_reducible refine build_all ?_ 31 #[] ?_ (mv noD (.slice none 0 0) (.slice none 0 0)).toArray ?_ ?_);rfl;rfl;go_must (refine Eq.trans ?_ built_manZ;kernel_rfl))
    | ((with_reducible refine store_all ?_ 31 (.tmp 2) (.tmp 53) ?_ w.heap.size (mv noD (.slice none 0 0) (.slice none 0 0)) ?_ ?_ (mv noD (.slice none 0 0) (.slice none 0 0)) ?_ ?_ ?_ ?_ ?_);rfl;rfl;go_must (rfl;rfl;rfl;exact P7.out.res;exact mv_size noD_len;exact mv_one rfl rfl;intro wz Rz Kz Ez)))
   refine bodyPost_ret (v:= .tuple #[.agg (mv noD (.slice none 0 0) (.slice none 0 0)).toArray, .int .i64 (3:Int)]) (results_row_tmp (fn:=Tryz.f10) (p:=2) (u:=3) rfl _ _ w.heap.size _ (mv noD (.slice none 0 0) (.slice none 0 0)).toArray _ _ rfl Rz.out Tryz.underlying31 rfl (mv_sizeA noD_len)) rfl ?_
   rw [HRR.out]
   exact ⟨rfl,by decide,own_row P7.out.below Kz.out⟩
  | true=>
   cases o1 with
   | none=>
    have HRR:Hid (R= .err 3):=Lib.hid (by rw [HMN.out];exact HNO.out (.inr (.inl rfl)))
    clear HMN HNO HOK HLP pl0 pls
    simp only [Option.isSome_none]
    generalize plc (getA L 0 layersK)=zl
    go_wp2_with (first
     | ((with_reducible refine build_all ?_ 31 #[] ?_ (mv noD (.slice none 0 0) (.slice none 0 0)).toArray ?_ ?_);rfl;rfl;go_must (refine Eq.trans ?_ built_manZ;kernel_rfl))
     | ((with_reducible refine store_all ?_ 31 (.tmp 2) (.tmp 53) ?_ w.heap.size (mv noD (.slice none 0 0) (.slice none 0 0)) ?_ ?_ (mv noD (.slice none 0 0) (.slice none 0 0)) ?_ ?_ ?_ ?_ ?_);rfl;rfl;go_must (rfl;rfl;rfl;exact P7.out.res;exact mv_size noD_len;exact mv_one rfl rfl;intro wz Rz Kz Ez)))
    refine bodyPost_ret (v:= .tuple #[.agg (mv noD (.slice none 0 0) (.slice none 0 0)).toArray, .int .i64 (3:Int)]) (results_row_tmp (fn:=Tryz.f10) (p:=2) (u:=3) rfl _ _ w.heap.size _ (mv noD (.slice none 0 0) (.slice none 0 0)).toArray _ _ rfl Rz.out Tryz.underlying31 rfl (mv_sizeA noD_len)) rfl ?_
    rw [HRR.out]
    exact ⟨rfl,by decide,own_row P7.out.below Kz.out⟩
   | some d1=>
    have hdd:d=d1:=HD.out
    subst hdd
    simp only [Option.isSome_some]
    cases hgl:getA L 0 layersK with
    | none=>
     have HRR:Hid (R= .err 3):=Lib.hid (by rw [HMN.out];exact HNO.out (.inr (.inr (.inl hgl))))
     rw [pl0]
     clear HMN HNO HOK HLP pl0 pls hgl
     go_wp2_with (first
      | ((with_reducible refine build_all ?_ 31 #[] ?_ (mv noD (.slice none 0 0) (.slice none 0 0)).toArray ?_ ?_);rfl;rfl;go_must (refine Eq.trans ?_ built_manZ;kernel_rfl))
      | ((with_reducible refine store_all ?_ 31 (.tmp 2) (.tmp 53) ?_ w.heap.size (mv noD (.slice none 0 0) (.slice none 0 0)) ?_ ?_ (mv noD (.slice none 0 0) (.slice none 0 0)) ?_ ?_ ?_ ?_ ?_);rfl;rfl;go_must (rfl;rfl;rfl;exact P7.out.res;exact mv_size noD_len;exact mv_one rfl rfl;intro wz Rz Kz Ez)))
     refine bodyPost_ret (v:= .tuple #[.agg (mv noD (.slice none 0 0) (.slice none 0 0)).toArray, .int .i64 (3:Int)]) (results_row_tmp (fn:=Tryz.f10) (p:=2) (u:=3) rfl _ _ w.heap.size _ (mv noD (.slice none 0 0) (.slice none 0 0)).toArray _ _ rfl Rz.out Tryz.underlying31 rfl (mv_sizeA noD_len)) rfl ?_
     rw [HRR.out]
     exact ⟨rfl,by decide,own_row P7.out.below Kz.out⟩
    | some kp=>
     rw [pls]
     have hkp:=HGP.out kp hgl
     obtain ⟨b,o,rfl,hbl,_⟩:=(HVC.out w7 B7.out).at_ (by omega)
     have HC:=Lib.hid (fun W (q:Below w1.heap.size w1 W)=> (HVC.out W q).cells hkp)
     have hkl:(kp:Int) < (L.length:Int):=by omega
     have hk0:(0:Int)≤(kp:Int):=by omega
     have hkn:¬(kp:Int) < 0:=by omega
     obtain ⟨x0, -, -, -⟩:=HC.out w7 B7.out
     by_cases h5:L[kp].kind=5
     case neg=>
      have hkb:(L[kp].kind !=5)=true:=bne_iff_ne.2 h5
      have HRR:Hid (R= .err 3):=Lib.hid (by rw [HMN.out];exact HNO.out (.inr (.inr (.inr ⟨kp,hgl,by rw [List.drop_eq_getElem_cons hkp];exact h5⟩))))
      clear HMN HNO HOK HLP pl0 pls hgl HC h5
      generalize L[kp].kind=vk at*
      go_wp2_with (first
       | ((with_reducible refine build_all ?_ 31 #[] ?_ (mv noD (.slice none 0 0) (.slice none 0 0)).toArray ?_ ?_);rfl;rfl;go_must (refine Eq.trans ?_ built_manZ;kernel_rfl))
       | ((with_reducible refine store_all ?_ 31 (.tmp 2) (.tmp 53) ?_ w.heap.size (mv noD (.slice none 0 0) (.slice none 0 0)) ?_ ?_ (mv noD (.slice none 0 0) (.slice none 0 0)) ?_ ?_ ?_ ?_ ?_);rfl;rfl;go_must (rfl;rfl;rfl;exact P7.out.res;exact mv_size noD_len;exact mv_one rfl rfl;intro wz Rz Kz Ez)))
      refine bodyPost_ret (v:= .tuple #[.agg (mv noD (.slice none 0 0) (.slice none 0 0)).toArray, .int .i64 (3:Int)]) (results_row_tmp (fn:=Tryz.f10) (p:=2) (u:=3) rfl _ _ w.heap.size _ (mv noD (.slice none 0 0) (.slice none 0 0)).toArray _ _ rfl Rz.out Tryz.underlying31 rfl (mv_sizeA noD_len)) rfl ?_
      rw [HRR.out]
      exact ⟨rfl,by decide,own_row P7.out.below Kz.out⟩
     case pos=>
      rw [h5]at x0
      have hd5:kindOf (L.drop kp)=5:=by rw [List.drop_eq_getElem_cons hkp];exact h5
      obtain ⟨⟨hcnt,hparts⟩,hall⟩:=HLP.out kp hgl hd5
      have hct:countOf (L.drop kp)=L[kp].count:=by rw [List.drop_eq_getElem_cons hkp];rfl
      rw [hct]at hcnt
      rw [←hcnt]at HC
      have hpf:=HFW.out kp hgl hd5
      have HPT:=Lib.hid hparts
      have HAL:=Lib.hid hall
      have HM2:=Lib.hid (fun ls (h:allD (partsL (ofKey L layersK))=some ls)=> show R=_ from HMN.out.trans (HOK.out d ls rfl rfl (hall.trans h)))
      have HM3:=Lib.hid (fun (h:allD (partsL (ofKey L layersK))=none)=> show R= .err 3 from HMN.out.trans (man_no (.inr (.inr (hall.trans h)))))
      clear HMN HNO HOK HLP pl0 pls hgl hd5 hcnt hparts hall hct h5 HAL HGP HD
      generalize partsL (ofKey L layersK)=PP at*
      obtain ⟨pn,hpn⟩:∃pn,pn=PP.length:=⟨_,rfl⟩
      rw [←hpn]at HC hpf
      have HPN:=Lib.hid hpn
      clear hpn
      have HSP:=Lib.hid (fun (j:Nat) (hj:j < PP.length)=> show PP[j].length≤5000∧Short 1000000000 PP[j]from by
       rw [←HPT.out j hj]
       exact ⟨Nat.le_trans (HCL.out _) hl5,HKT.out _⟩)
      clear HKT HCL HKS
      have HBM:=Lib.hid (built_manC HDVd.out)
      have HML:=Lib.hid (mv_len HDVd.out (.slice none 0 0) (.slice none 0 0))
      have HM1:=Lib.hid (mv_one (c:=d) (a:= .slice none 0 0) (b:= .slice none 0 0) rfl rfl)
      have HDZ:=Lib.hid (dv_size HDVd.out)
      obtain ⟨MB,hMB⟩:∃MB,MB=mv d (.slice none 0 0) (.slice none 0 0):=⟨_,rfl⟩
      rw [←hMB]at HBM HML HM1
      have HMB:=Lib.hid hMB
      clear hMB
      obtain ⟨DV,hDV⟩:∃DV,DV=dv d:=⟨_,rfl⟩
      rw [←hDV]at HBM HDZ R7
      clear hDV
      go_upto_region 10 with (first
       | ((with_reducible refine load_all ?_ 27 (.tmp 7) ?_ q 0 DV DV.toArray ?_ _ ?_ Tryz.underlying27 ?_ ?_ ?_ ?_);rfl;rfl;go_must (rfl;exact rangeAt_row R7.out;rfl;exact HDZ.out;rfl))
       | ((with_reducible refine build_all ?_ 31 #[(0, .tmp 54)] ?_ MB.toArray ?_ ?_);rfl;rfl;go_must (refine Eq.trans ?_ HBM.out;kernel_rfl))
       | ((with_reducible refine store_all ?_ 31 (.tmp 10) (.tmp 55) ?_ w7.heap.size MB ?_ ?_ (mv noD (.slice none 0 0) (.slice none 0 0)) ?_ ?_ ?_ ?_ ?_);rfl;rfl;go_must (rfl;rfl;(rw [HML.out];rfl);exact Row.at_ _ _ _ rfl rfl;(rw [HML.out];exact mt_sizeM);exact HM1.out;intro w8 R8 K8 E8)))
      have KB8:=Lib.hid (show Below w7.heap.size w7 w8 from (kept_stored K8.out).below (Nat.le_refl _) (fun _ _ h=> h))
      have P8:=Lib.hid (P7.out.next KB8.out)
      have B8:=Lib.hid (B7.out.trans (KB8.out.mono B7.out.size))
      have hmb:w.heap.size < w7.heap.size:=P7.out.res.lt
      have hmb1:w1.heap.size≤w7.heap.size:=B7.out.size
      have RB8:=Lib.hid (show Row w8 w7.heap.size 31 (mv d (.slice none 0 0) (.slice none 0 0))from by rw [←HMB.out];exact R8.out)
      clear P7 B7 K8 E8 KB8 R7 R8 HBM HML HM1 HMB HDZ x0 hq4
      generalize w7.heap.size=mb at*
      have HX8:=Lib.hid (And.intro P8.out B8.out)
      clear P8 B8
      go_wp2_with fail
      go_loopg [11] pn (fun g v11 wx=> ∃(j:Nat) (ds:List Desc) (v34:Value),v11= .int .i64 (j:Int)∧j+g=pn∧Hid (allD (PP.take j)=some ds)∧Hid (ds.length=j)∧Hid (Row wx mb 31 (mv d v34 (.slice none 0 0))∧OwnDescs wx (mb+1) v34 ds)∧Hid (RmAt w wx∧Below w1.heap.size w1 wx))
      case atStart=> exact ⟨0,[], .slice none 0 0,rfl,by omega,Lib.hid rfl,Lib.hid rfl,Lib.hid ⟨RB8.out,OwnDescs.nil _ _⟩,HX8⟩
      case round=>
       clear RB8 HX8
       obtain ⟨j,ds,v34,rfl,hjg,HA,HDL,HO,HX⟩:=hrel
       obtain ⟨-, -, -,x3⟩:=HC.out wr HX.out.2
       have c34:=HO.out.1.cell (mv_at HDVd.out v34 (.slice none 0 0)).1
       cases gk with
       | zero=>
        obtain rfl:j=pn:=by omega
        have hge:¬(j:Int) < (j:Int):=by omega
        rw [List.take_of_length_le (Nat.le_of_eq HPN.out.symm)]at HA
        have HR2:=Lib.hid (HM2.out ds HA.out)
        clear HM2 HM3 HPT HSP HIT HCT HA
        obtain ⟨A8,c8,rfl, -⟩:=HO.out.2.descs
        by_cases h60:60 < ds.length
        ·have HRR:Hid (R= .err 2):=Lib.hid (by rw [HR2.out,if_pos h60])
         have hg:(60:Int) < (ds.length:Int):=by omega
         have P9:=Lib.hid HX.out.1
         clear HR2
         go_wp2_with (first
          | ((with_reducible refine build_all ?_ 31 #[] ?_ (mv noD (.slice none 0 0) (.slice none 0 0)).toArray ?_ ?_);rfl;rfl;go_must (refine Eq.trans ?_ built_manZ;kernel_rfl))
          | ((with_reducible refine store_all ?_ 31 (.tmp 2) (.tmp 88) ?_ w.heap.size (mv noD (.slice none 0 0) (.slice none 0 0)) ?_ ?_ (mv noD (.slice none 0 0) (.slice none 0 0)) ?_ ?_ ?_ ?_ ?_);rfl;rfl;go_must (rfl;rfl;rfl;exact P9.out.res;exact mv_size noD_len;exact mv_one rfl rfl;intro wz Rz Kz Ez)))
         refine bodyPost_ret (v:= .tuple #[.agg (mv noD (.slice none 0 0) (.slice none 0 0)).toArray, .int .i64 (2:Int)]) (results_row_tmp (fn:=Tryz.f10) (p:=2) (u:=3) rfl _ _ w.heap.size _ (mv noD (.slice none 0 0) (.slice none 0 0)).toArray _ _ rfl Rz.out Tryz.underlying31 rfl (mv_sizeA noD_len)) rfl ?_
         rw [HRR.out]
         exact ⟨rfl,by decide,own_row P9.out.below Kz.out⟩
        ·have HRR:Hid (R= .ok ⟨d,ds,sortA (dropA (dropA L configK) layersK)⟩):=Lib.hid (by rw [HR2.out,if_neg h60])
         have hg:¬(60:Int) < (ds.length:Int):=by omega
         clear HR2 h60
         have HDX:=Lib.hid (HDC.out wr HX.out.2)
         have P9:=Lib.hid HX.out.1
         have R9:=Lib.hid HO.out.1
         have HO9:=Lib.hid HO.out.2
         clear HX HO HDC HC
         go_wp2_with fail
         refine HDX.out.mono ?_
         rintro e w10 ⟨A10,c10,rfl,K10⟩
         have P10:=Lib.hid (P9.out.next K10.out.2.2)
         have R10:=Lib.hid (show Row w10 mb 31 (mv d (.slice A8 ds.length c8) (.slice none 0 0))from R9.out.below K10.out.2.2 R9.out.lt)
         have HO10:=Lib.hid (HO9.out.below K10.out.2.2)
         have HV10:=Lib.hid K10.out.2.1
         clear P9 K10 R9 HO9 HDX c34 x3
         have HSD2:=Lib.hid (short_dropA HSD.out (key:=layersK))
         have hd2:=drop_few (L:=dropA L configK) layersK
         generalize dropA L configK=X1 at*
         go_wp2_with fail
         refine (show Calls _ _ #[_, .string ⟨#[108,97,121,101,114,115]⟩] _ _ from own_any (L:=dropA X1 layersK) rfl (jo_rdrop w10 A10 X1.length c10 X1 HV10.out (by omega) HSD.out layersK)).mono ?_
         rintro e w11 ⟨A11,c11,rfl,K11⟩
         have P11:=Lib.hid (P10.out.next K11.out.2.2)
         have R11:=Lib.hid (show Row w11 mb 31 (mv d (.slice A8 ds.length c8) (.slice none 0 0))from R10.out.below K11.out.2.2 R10.out.lt)
         have HO11:=Lib.hid (HO10.out.below K11.out.2.2)
         have HV11:=Lib.hid K11.out.2.1
         clear P10 K11 R10 HO10 HV10
         generalize dropA X1 layersK=X2 at*
         go_wp2_with fail
         refine (own_any (L:=sortA X2) rfl (js_rsort w11 A11 X2.length c11 X2 HV11.out (by omega) HSD2.out)).mono ?_
         rintro e w12 ⟨A12,c12,rfl,K12⟩
         have P12:=Lib.hid (P11.out.next K12.out.2.2)
         have R12:=Lib.hid (show Row w12 mb 31 (mv d (.slice A8 ds.length c8) (.slice none 0 0))from R11.out.below K12.out.2.2 R11.out.lt)
         have HO12:=Lib.hid (HO11.out.below K12.out.2.2)
         have HR12:=Lib.hid (K12.out.1.mono (show mb+1≤_ from R11.out.lt))
         clear P11 K12 R11 HO11 HV11
         generalize hsx:(sortA X2).length=sx at*
         have HSX:=Lib.hid hsx
         clear hsx
         have c35:w12.cell? ⟨mb,35,none⟩=some (.slice none 0 0):=R12.out.cell (mv_at HDVd.out _ _).2
         have f35:w12.frozen? ⟨mb,35,none⟩=false:=R12.out.frozen 35
         have K13:=Lib.hid (show Kept w12 (w12.setCell ⟨mb,35,none⟩ (.slice A12 sx c12)) (·=mb)from (Kept.refl w12 (·=mb)).setCell (a:=⟨mb,35,none⟩) (.inr rfl) _)
         have P13:=Lib.hid (P12.out.kept K13.out (fun i e=> by rw [e];exact hmb))
         have HO13:=Lib.hid (HO12.out.kept K13.out (fun b e eb=> by have:=HO12.out.block e;omega))
         have HR13:=Lib.hid (HR12.out.kept K13.out (fun b e eb=> by have:=(HR12.out.block e).1;omega))
         have R13:=Lib.hid (show Row (w12.setCell ⟨mb,35,none⟩ (.slice A12 sx c12)) mb 31 (mv d (.slice A8 ds.length c8) (.slice A12 sx c12))from by rw [←mv_set35 HDVd.out];exact R12.out.set 35 _)
         have HML:=Lib.hid (mv_len HDVd.out (.slice A8 ds.length c8) (.slice A12 sx c12))
         have HM1:=Lib.hid (mv_one (c:=d) (a:= .slice A8 ds.length c8) (b:= .slice A12 sx c12) rfl rfl)
         generalize hMV:mv d (.slice A8 ds.length c8) (.slice A12 sx c12)=MV at*
         have HMV:=Lib.hid hMV
         clear hMV P12 HO12 HR12 R12 K13
         go_upto_region 20 with fail
         generalize w12.setCell ⟨mb,35,none⟩ (.slice A12 sx c12)=w13 at*
         go_wp2_with (first
          | ((with_reducible refine load_all ?_ 31 (.tmp 10) ?_ mb 0 MV MV.toArray ?_ _ ?_ Tryz.underlying31 ?_ ?_ ?_ ?_);rfl;rfl;go_must (rfl;exact rangeAt_row R13.out;rfl;(rw [HML.out];exact mt_sizeM);rfl))
          | ((with_reducible refine store_all ?_ 31 (.tmp 2) (.tmp 94) ?_ w.heap.size MV ?_ ?_ (mv noD (.slice none 0 0) (.slice none 0 0)) ?_ ?_ ?_ ?_ ?_);rfl;rfl;go_must (rfl;rfl;(rw [HML.out];rfl);exact P13.out.res;(rw [HML.out];exact mt_sizeM);exact HM1.out;intro wz Rz Kz Ez)))
         refine bodyPost_ret (v:= .tuple #[.agg MV.toArray, .int .i64 0]) (results_row_tmp (fn:=Tryz.f10) (p:=2) (u:=3) rfl _ _ w.heap.size _ MV.toArray _ _ rfl Rz.out Tryz.underlying31 rfl (by rw [List.size_toArray,HML.out];exact mt_sizeM)) rfl ?_
         rw [HRR.out]
         refine ⟨A8,c8,A12,c12,by rw [←HMV.out,←HSX.out],(HO13.out.kept Kz.out (fun b e eb=> by have:=HO13.out.block e;omega)).mono (by omega), ?_,HDVd.out,own_row P13.out.below Kz.out⟩
         have:=(HR13.out.kept Kz.out (fun b e eb=> by have:=(HR13.out.block e).1;omega)).mono (show w.heap.size≤mb+1 by omega)
         rw [HSX.out]
         exact this
       | succ g=>
        have hlt:(j:Int) < (pn:Int):=by omega
        have hj:j < PP.length:=by rw [←HPN.out];omega
        obtain ⟨hpl,hps⟩:=HSP.out j hj
        have HPS:=Lib.hid hps
        have HIX:=Lib.hid (HIT.out wr HX.out.2 (kp:Int) (j:Int))
        have HCX:=Lib.hid (fun W q=> HCT.out W q PP[j] (plc (itemA L (kp:Int) (j:Int))) (HPT.out j hj))
        have HNX:=Lib.hid (show PP.take (j+1)=PP.take j++[PP[j]]from List.take_succ_eq_append_getElem hj)
        have HNO:=Lib.hid (show descF PP[j]=none→R= .err 3 from fun h=> HM3.out (all_none (List.getElem_mem hj) h))
        clear hps HIT HCT HPT HM2 HM3 HSP c34
        generalize PP[j]=p at*
        clear hj
        generalize plc (itemA L (kp:Int) (j:Int))=zi at*
        go_wp2_with fail
        refine HIX.out.mono ?_
        rintro e w9 ⟨rfl,K9⟩
        have HX9:=Lib.hid (And.intro (HX.out.1.next K9.out) (HX.out.2.trans (K9.out.mono HX.out.2.size)))
        have HO9:=Lib.hid (show Row w9 mb 31 (mv d v34 (.slice none 0 0))∧OwnDescs w9 (mb+1) v34 ds from ⟨HO.out.1.below K9.out HO.out.1.lt,HO.out.2.below K9.out⟩)
        clear HX HO K9 HIX x3
        go_wp2_with fail
        refine (HCX.out w9 HX9.out.2).mono ?_
        rintro e w10 ⟨A10,c10,rfl,K10⟩
        have HX10:=Lib.hid (And.intro (HX9.out.1.next K10.out.2.2) (HX9.out.2.trans (K10.out.2.2.mono HX9.out.2.size)))
        have HO10:=Lib.hid (show Row w10 mb 31 (mv d v34 (.slice none 0 0))∧OwnDescs w10 (mb+1) v34 ds from ⟨HO9.out.1.below K10.out.2.2 HO9.out.1.lt,HO9.out.2.below K10.out.2.2⟩)
        have HV10:=Lib.hid K10.out.2.1
        clear HX9 HO9 K10 HCX
        have HRD:=Lib.hid (mt_rdesc w10 A10 p.length c10 p HV10.out (by omega) HPS.out)
        have hdi:∀d,descF p=some d→d.dig.length=32:=fun d h=> (desc_inv h).2.1
        have HAP:=Lib.hid (fun d (h:descF p=some d)=> show allD (PP.take (j+1))=some (ds++[d])from by rw [HNX.out];exact all_snoc HA.out h)
        clear HNX HA HV10
        generalize p.length=pl at*
        generalize descF p=o2 at*
        have hod:(orD o2).dig.length=32:=by
         cases o2 with
         | none=> rfl
         | some d=> exact hdi d rfl
        go_wp2_with fail
        refine HRD.out.mono ?_
        rintro e w11 ⟨rfl,K11⟩
        have HX11:=Lib.hid (And.intro (HX10.out.1.next K11.out) (HX10.out.2.trans (K11.out.mono HX10.out.2.size)))
        have HO11:=Lib.hid (show Row w11 mb 31 (mv d v34 (.slice none 0 0))∧OwnDescs w11 (mb+1) v34 ds from ⟨HO10.out.1.below K11.out HO10.out.1.lt,HO10.out.2.below K11.out⟩)
        clear HX10 HO10 K11 HRD
        obtain ⟨d2,hd2⟩:∃d2,d2=orD o2:=⟨_,rfl⟩
        rw [←hd2]at hod ⊢
        have HDVd2:=Lib.hid hod
        have HD2:=Lib.hid hd2
        clear hod hd2 hdi
        go_upto_region 14 with ((with_reducible refine store_all ?_ 27 (.tmp 12) (.tmp 73) ?_ w11.heap.size (dv d2) ?_ ?_ (dv noD) ?_ ?_ ?_ ?_ ?_);rfl;rfl;go_must (rfl;rfl;(rw [dv_len HDVd2.out];rfl);exact Row.at_ _ _ _ rfl rfl;exact dv_size HDVd2.out;exact dv_all _;intro w12 Rw12 Kw12 Ew12))
        have KBw12:=Lib.hid (show Below w11.heap.size w11 w12 from (kept_stored Kw12.out).below (Nat.le_refl _) (fun _ _ h=> h))
        clear Kw12 Ew12
        have HX12:=Lib.hid (And.intro (HX11.out.1.next KBw12.out) (HX11.out.2.trans (KBw12.out.mono HX11.out.2.size)))
        have HO12:=Lib.hid (show Row w12 mb 31 (mv d v34 (.slice none 0 0))∧OwnDescs w12 (mb+1) v34 ds from ⟨HO11.out.1.below KBw12.out HO11.out.1.lt,HO11.out.2.below KBw12.out⟩)
        clear HX11 HO11 KBw12
        generalize w11.heap.size=q2 at*
        cases o2 with
        | none=>
         have HRR:Hid (R= .err 3):=Lib.hid (HNO.out rfl)
         have P12:=Lib.hid HX12.out.1
         clear HNO HAP
         simp only [Option.isSome_none]
         go_wp2_with (first
          | ((with_reducible refine build_all ?_ 31 #[] ?_ (mv noD (.slice none 0 0) (.slice none 0 0)).toArray ?_ ?_);rfl;rfl;go_must (refine Eq.trans ?_ built_manZ;kernel_rfl))
          | ((with_reducible refine store_all ?_ 31 (.tmp 2) (.tmp 77) ?_ w.heap.size (mv noD (.slice none 0 0) (.slice none 0 0)) ?_ ?_ (mv noD (.slice none 0 0) (.slice none 0 0)) ?_ ?_ ?_ ?_ ?_);rfl;rfl;go_must (rfl;rfl;rfl;exact P12.out.res;exact mv_size noD_len;exact mv_one rfl rfl;intro wz Rz Kz Ez)))
         refine bodyPost_ret (v:= .tuple #[.agg (mv noD (.slice none 0 0) (.slice none 0 0)).toArray, .int .i64 (3:Int)]) (results_row_tmp (fn:=Tryz.f10) (p:=2) (u:=3) rfl _ _ w.heap.size _ (mv noD (.slice none 0 0) (.slice none 0 0)).toArray _ _ rfl Rz.out Tryz.underlying31 rfl (mv_sizeA noD_len)) rfl ?_
         rw [HRR.out]
         exact ⟨rfl,by decide,own_row P12.out.below Kz.out⟩
        | some d3=>
         have hdd:d2=d3:=HD2.out
         subst hdd
         have HA2:=Lib.hid (HAP.out d2 rfl)
         clear HNO HAP HD2
         simp only [Option.isSome_some]
         have c34:w12.cell? ⟨mb,34,none⟩=some v34:=HO12.out.1.cell (mv_at HDVd.out v34 (.slice none 0 0)).1
         have HLN:=Lib.hid (show (ds++[d2]).length=j+1 from by rw [List.length_append,HDL.out];rfl)
         have HSB:=Lib.hid (show mb+1≤(w12.alloc (.cells (dv d2).toArray 27)).heap.size from Nat.le_trans HO12.out.1.lt (below_alloc w12 _).size)
         go_upto_region 12 with (first
          | ((with_reducible refine load_all ?_ 27 (.tmp 12) ?_ q2 0 (dv d2) (dv d2).toArray ?_ _ ?_ Tryz.underlying27 ?_ ?_ ?_ ?_);rfl;rfl;go_must (rfl;exact rangeAt_row Rw12.out;rfl;exact dv_size HDVd2.out;rfl))
          | (with_reducible refine build_desc1 rfl _ rfl d2 (dv d2).toArray rfl HDVd2.out rfl ?_)
          | (at_builtin;go_must ((with_reducible refine append_descs rfl _ _ rfl (mb+1) v34 ds rfl (HO12.out.2.below (below_alloc _ _)) ⟨w12.heap.size,0,none⟩ 1 1 [d2] rfl (desc_row1 w12 HDVd2.out rfl) (by rw [HDL.out];omega) HSB.out ?_);intro v14 w14 h1 h2 h3;obtain ⟨A14,c14,e14, -⟩:=h1.out.descs;rw [HLN.out]at e14;subst e14;have R14:=Lib.hid (show Row w14 mb 31 (mv d v34 (.slice none 0 0))from (HO12.out.1.alloc _).of_block (h2.out.block _ (HO12.out.1.alloc _).lt (fun e=> by have:=e.1;omega)));have f34:w14.frozen? ⟨mb,34,none⟩=false:=R14.out.frozen 34;have e34:w14.cell? ⟨mb,34,none⟩=some v34:=R14.out.cell (mv_at HDVd.out v34 (.slice none 0 0)).1;have K14:=Lib.hid (show Kept w12 (w14.setCell ⟨mb,34,none⟩ (.slice A14 (j+1) c14)) (fun i=> mb≤i)from (((Kept.refl w12 (fun i=> mb≤i)).alloc _).trans (h2.out.mono (fun i _ e=> by have:=e.1;omega))).setCell (a:=⟨mb,34,none⟩) (.inr (Nat.le_refl _)) _);have R15:=Lib.hid (show Row (w14.setCell ⟨mb,34,none⟩ (.slice A14 (j+1) c14)) mb 31 (mv d (.slice A14 (j+1) c14) (.slice none 0 0))from by rw [←mv_set34 HDVd.out v34];exact R14.out.set 34 _);have HO15:=Lib.hid (show OwnDescs (w14.setCell ⟨mb,34,none⟩ (.slice A14 (j+1) c14)) (mb+1) (.slice A14 (j+1) c14) (ds++[d2])from h1.out.kept ((Kept.refl w14 (·=mb)).setCell (a:=⟨mb,34,none⟩) (.inr rfl) _) (fun b e eb=> by have:=h1.out.block e;omega));clear h1 h2 h3 R14)))
         have HX15:=Lib.hid (And.intro (HX12.out.1.kept K14.out (fun i e=> by omega)) (HX12.out.2.trans (K14.out.below HX12.out.2.size (fun i hi e=> by omega))))
         clear HX12 HO12 K14 c34
         generalize w14.setCell ⟨mb,34,none⟩ (.slice A14 (j+1) c14)=w15 at*
         go_wp2_with fail
         go_roundg g
         case measure=> omega
         case rel=> exact ⟨j+1,ds++[d2], .slice A14 (j+1) c14,by go_num,by omega,HA2,Lib.hid (by rw [List.length_append,HDL.out];rfl),Lib.hid ⟨R15.out,HO15.out⟩,HX15⟩
end Go.Proofs.YtmkjcleecjjchaaGreatDoor
