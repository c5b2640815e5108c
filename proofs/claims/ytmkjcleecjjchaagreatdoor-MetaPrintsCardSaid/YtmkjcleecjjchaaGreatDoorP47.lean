import Derived.Test.YtmkjcleecjjchaaGreatDoorP29
import Derived.Test.YtmkjcleecjjchaaGreatDoorP25
import Derived.Deep.RegionHeld3
import Derived.Test.YtmkjcleecjjchaaGreatDoorP31
import Derived.Lib.ConvBytes
import Derived.Lib.SlBytesConst
namespace Go.Proofs.YtmkjcleecjjchaaGreatDoor
open Go.RowKit Sh Jt Js Jo
set_option maxRecDepth 100000
theorem arr_self:∀(g:List UInt8),g.length=32→∀W:World,(Op.equalIn 9999 25 (.agg (g.map v8).toArray) (.agg (g.map v8).toArray)).run Tryz.prog W= .ok true W:=by
 intro g hg W
 have fa:(Value.agg (g.map v8).toArray).formed Tryz.prog 25=true:=by
  match g,hg with
  | [x0,x1,x2,x3,x4,x5,x6,x7,x8,x9,x10,x11,x12,x13,x14,x15,x16,x17,x18,x19,x20,x21,x22,x23,x24,x25,x26,x27,x28,x29,x30,x31],_=> exact formed32 _ _ _ _ _ _ _ _ _ _ _ _ _ _ _ _ _ _ _ _ _ _ _ _ _ _ _ _ _ _ _ _
 obtain ⟨r,hr,he⟩:=run_equalIn_deep (P:=Tryz.prog) 9996 3 25 key32 W 5 5 (.agg (g.map v8).toArray) (.agg (g.map v8).toArray) (litsOf g) (litsOf g) fa fa (lits_bytes g hg) (lits_bytes g hg)
 refine Eq.trans hr ?_
 rw [he.2 rfl]
set_option maxHeartbeats 4000000 in
theorem desc_go (s:ByteArray) (n:Int) (x0 x1 x2 x3 x4 x5 x6 x7 x8 x9 x10 x11 x12 x13 x14 x15 x16 x17 x18 x19 x20 x21 x22 x23 x24 x25 x26 x27 x28 x29 x30 x31:Int) (W:World) (h:∀W,(Op.equalIn 9999 25 (.agg #[.int .u8 x0, .int .u8 x1, .int .u8 x2, .int .u8 x3, .int .u8 x4, .int .u8 x5, .int .u8 x6, .int .u8 x7, .int .u8 x8, .int .u8 x9, .int .u8 x10, .int .u8 x11, .int .u8 x12, .int .u8 x13, .int .u8 x14, .int .u8 x15, .int .u8 x16, .int .u8 x17, .int .u8 x18, .int .u8 x19, .int .u8 x20, .int .u8 x21, .int .u8 x22, .int .u8 x23, .int .u8 x24, .int .u8 x25, .int .u8 x26, .int .u8 x27, .int .u8 x28, .int .u8 x29, .int .u8 x30, .int .u8 x31]) (.agg #[.int .u8 x0, .int .u8 x1, .int .u8 x2, .int .u8 x3, .int .u8 x4, .int .u8 x5, .int .u8 x6, .int .u8 x7, .int .u8 x8, .int .u8 x9, .int .u8 x10, .int .u8 x11, .int .u8 x12, .int .u8 x13, .int .u8 x14, .int .u8 x15, .int .u8 x16, .int .u8 x17, .int .u8 x18, .int .u8 x19, .int .u8 x20, .int .u8 x21, .int .u8 x22, .int .u8 x23, .int .u8 x24, .int .u8 x25, .int .u8 x26, .int .u8 x27, .int .u8 x28, .int .u8 x29, .int .u8 x30, .int .u8 x31])).run Tryz.prog W= .ok true W):(Op.equalIn 10000 27 (.agg #[.string s, .int .u8 x0, .int .u8 x1, .int .u8 x2, .int .u8 x3, .int .u8 x4, .int .u8 x5, .int .u8 x6, .int .u8 x7, .int .u8 x8, .int .u8 x9, .int .u8 x10, .int .u8 x11, .int .u8 x12, .int .u8 x13, .int .u8 x14, .int .u8 x15, .int .u8 x16, .int .u8 x17, .int .u8 x18, .int .u8 x19, .int .u8 x20, .int .u8 x21, .int .u8 x22, .int .u8 x23, .int .u8 x24, .int .u8 x25, .int .u8 x26, .int .u8 x27, .int .u8 x28, .int .u8 x29, .int .u8 x30, .int .u8 x31, .int .i64 n]) (.agg #[.string s, .int .u8 x0, .int .u8 x1, .int .u8 x2, .int .u8 x3, .int .u8 x4, .int .u8 x5, .int .u8 x6, .int .u8 x7, .int .u8 x8, .int .u8 x9, .int .u8 x10, .int .u8 x11, .int .u8 x12, .int .u8 x13, .int .u8 x14, .int .u8 x15, .int .u8 x16, .int .u8 x17, .int .u8 x18, .int .u8 x19, .int .u8 x20, .int .u8 x21, .int .u8 x22, .int .u8 x23, .int .u8 x24, .int .u8 x25, .int .u8 x26, .int .u8 x27, .int .u8 x28, .int .u8 x29, .int .u8 x30, .int .u8 x31, .int .i64 n])).run Tryz.prog W= .ok true W:=by
 go_simp
theorem desc_self1 (m:List UInt8) (n:Int) (W:World):∀g:List UInt8,g.length=32→(Op.equalIn 10000 27 (.agg (dv ⟨m,g,n⟩).toArray) (.agg (dv ⟨m,g,n⟩).toArray)).run Tryz.prog W= .ok true W
 | [x0,x1,x2,x3,x4,x5,x6,x7,x8,x9,x10,x11,x12,x13,x14,x15,x16,x17,x18,x19,x20,x21,x22,x23,x24,x25,x26,x27,x28,x29,x30,x31],h=> desc_go (sb m) n (n8 x0) (n8 x1) (n8 x2) (n8 x3) (n8 x4) (n8 x5) (n8 x6) (n8 x7) (n8 x8) (n8 x9) (n8 x10) (n8 x11) (n8 x12) (n8 x13) (n8 x14) (n8 x15) (n8 x16) (n8 x17) (n8 x18) (n8 x19) (n8 x20) (n8 x21) (n8 x22) (n8 x23) (n8 x24) (n8 x25) (n8 x26) (n8 x27) (n8 x28) (n8 x29) (n8 x30) (n8 x31) W (arr_self [x0,x1,x2,x3,x4,x5,x6,x7,x8,x9,x10,x11,x12,x13,x14,x15,x16,x17,x18,x19,x20,x21,x22,x23,x24,x25,x26,x27,x28,x29,x30,x31] h)
theorem desc_self {d:Desc} (h:d.dig.length=32) (W:World):(Op.equalIn 10000 27 (.agg (dv d).toArray) (.agg (dv d).toArray)).run Tryz.prog W= .ok true W:=desc_self1 d.media d.size W d.dig h
set_option maxHeartbeats 8000000 in
theorem mt_same (w:World) (m:Man) (A1:Option Addr) (n1 c1:Nat) (A2:Option Addr) (n2 c2:Nat) (E1:Option Addr) (d1:Nat) (E2:Option Addr) (d2:Nat) (hM:ManIn w m A1 n1 c1 A2 n2 c2) (hN:ManIn w m E1 n1 d1 E2 n2 d2) (hn1:n1≤140737488351232) (hn2:n2≤140737488351232):
  Calls Tryz.prog 11 #[.agg (mv m.config (.slice A1 n1 c1) (.slice A2 n2 c2)).toArray, .agg (mv m.config (.slice E1 n1 d1) (.slice E2 n2 d2)).toArray] w fun e w'=> e= .returned (.bool true)∧Hid (Below w.heap.size w w'):=by
 have hlen:=hM.lay.len
 have HBL:=Lib.hid (show Below w.heap.size w ((w.alloc (.cells (mv m.config (.slice A1 n1 c1) (.slice A2 n2 c2)).toArray 31)).alloc (.cells (mv m.config (.slice E1 n1 d1) (.slice E2 n2 d2)).toArray 31))from (below_alloc' w _).alloc (by simp) _)
 have HB1:=Lib.hid (show BoxM ((w.alloc (.cells (mv m.config (.slice A1 n1 c1) (.slice A2 n2 c2)).toArray 31)).alloc (.cells (mv m.config (.slice E1 n1 d1) (.slice E2 n2 d2)).toArray 31)) w.heap.size m.config (.slice A1 n1 c1) (.slice A2 n2 c2)from ⟨(Row.new _ _ _).alloc _,hM.dig⟩)
 have HB2:=Lib.hid (show BoxM ((w.alloc (.cells (mv m.config (.slice A1 n1 c1) (.slice A2 n2 c2)).toArray 31)).alloc (.cells (mv m.config (.slice E1 n1 d1) (.slice E2 n2 d2)).toArray 31)) (w.heap.size+1) m.config (.slice E1 n1 d1) (.slice E2 n2 d2)from ⟨Row.at_ _ _ _ rfl (by simp),hM.dig⟩)
 have HM:=Lib.hid (hM.below HBL.out)
 have HN:=Lib.hid (hN.below HBL.out)
 have hdc:=hM.dig
 clear hM hN
 go_enter Tryz.func11,Tryz.ntmps11
 go_upto_region 1 with fail
 generalize (w.alloc (.cells (mv m.config (.slice A1 n1 c1) (.slice A2 n2 c2)).toArray 31)).alloc (.cells (mv m.config (.slice E1 n1 d1) (.slice E2 n2 d2)).toArray 31)=w0 at*
 generalize (mv m.config (.slice A1 n1 c1) (.slice A2 n2 c2)).toArray=MV at*
 generalize (mv m.config (.slice E1 n1 d1) (.slice E2 n2 d2)).toArray=MW at*
 have c34:=HB1.out.c34
 have c35:=HB1.out.c35
 have e34:=HB2.out.c34
 have e35:=HB2.out.c35
 have HR1:=Lib.hid HB1.out.desc
 have HR2:=Lib.hid HB2.out.desc
 have heq:=fun W=> desc_self (d:=m.config) hdc W
 have HDZ:=Lib.hid (dv_size hdc)
 generalize dv m.config=DC at*
 have HSM:=Lib.hid (js_same w0 A2 E2 n2 c2 n2 d2 m.rest m.rest HM.out.rest HN.out.rest hn2 hn2)
 rw [decide_eq_true rfl]at HSM
 go_wp2_with (first
  | ((with_reducible refine load_all ?_ 27 (.tmp 6) ?_ w.heap.size 0 DC DC.toArray ?_ _ ?_ Tryz.underlying27 ?_ ?_ ?_ ?_);rfl;rfl;go_must (rfl;exact HR1.out;rfl;exact HDZ.out;rfl))
  | ((with_reducible refine load_all ?_ 27 (.tmp 8) ?_ (w.heap.size+1) 0 DC DC.toArray ?_ _ ?_ Tryz.underlying27 ?_ ?_ ?_ ?_);rfl;rfl;go_must (rfl;exact HR2.out;rfl;exact HDZ.out;rfl)))
 refine HSM.out.mono ?_
 rintro e w1 ⟨rfl,q,rfl⟩
 clear heq HR1 HR2 HDZ HSM c35 e35
 go_upto_region 4 with fail
 go_loopg [5] n1 (fun g v5 wx=> ∃j p:Nat,v5= .int .i64 (j:Int)∧j+g=n1∧wx=w0.drewN p)
 case atStart=> exact ⟨0,q,rfl,by omega,rfl⟩
 case round=>
  obtain ⟨j,p,rfl,hjg,rfl⟩:=hrel
  cases gk with
  | zero=>
   obtain rfl:j=n1:=by omega
   have hge:¬(j:Int) < (j:Int):=by omega
   go_wp2_with fail
   go_ret
   exact ⟨rfl,Lib.hid (below_drewN HBL.out p)⟩
  | succ g=>
   have hj:j < m.layers.length:=by omega
   have hjn:(j:Int) < (n1:Int):=by omega
   have hjp:(0:Int)≤(j:Int):=by omega
   obtain ⟨b,o,rfl,hb,_⟩:=HM.out.lay.at_ (by omega)
   obtain ⟨b2,o2,rfl,hb2,_⟩:=HN.out.lay.at_ (by omega)
   have HO1:=Lib.hid (HM.out.lay.one hj)
   have HO2:=Lib.hid (HN.out.lay.one hj)
   have hdk:=HM.out.lay.dig _ (List.getElem_mem hj)
   have heq:=fun W=> desc_self hdk W
   have hu:=Tryz.underlying27
   have hi:(Tryz.prog.info? 27).map (·.size)=some (dv m.layers[j]).length:=dv_size hdk
   generalize dv m.layers[j]=DK at*
   go_upto_region 6 with fail
   refine wp_region_noPanic ?_
   refine wp_region_held_drew (S:=fun x=> x.cell? ⟨w.heap.size,34,none⟩=some (.slice (some ⟨b,o,none⟩) n1 c1)∧x.cell? ⟨w.heap.size+1,34,none⟩=some (.slice (some ⟨b2,o2,none⟩) n1 d1)∧x.rangeAt b (o+j*34) DK∧x.rangeAt b2 (o2+j*34) DK) (by kernel_rfl) ⟨c34,e34,HO1.out,HO2.out⟩ (fun hHeld=> ?_)
   refine wpAnyH_take (i:=0) (v:= .pointer (some ⟨w.heap.size,34,none⟩)) rfl (by kernel_rfl) (by kernel_rfl) (by kernel_rfl) (fun _ _ _ h=> h) (Or.inl ⟨by rfl, ?_⟩) hHeld ?_
   ·intro x hx;obtain ⟨hx1,hx2,_,_⟩:=hx;go_simp
   simp only [List.getElem_toArray,List.getElem_cons_zero,Act.put,List.setIfInBounds_toArray,List.set_cons_zero,List.set_cons_succ]
   refine wpAnyH_take (i:=1) (v:= .slice (some ⟨b,o,none⟩) n1 c1) rfl (by kernel_rfl) (by kernel_rfl) (by kernel_rfl) (fun _ _ _ h=> h) (Or.inl ⟨by rfl, ?_⟩) hHeld ?_
   ·intro x hx;obtain ⟨hx1,hx2,_,_⟩:=hx;go_simp
   simp only [List.getElem_toArray,List.getElem_cons_succ,List.getElem_cons_zero,Act.put,List.setIfInBounds_toArray,List.set_cons_zero,List.set_cons_succ]
   refine wpAnyH_take (i:=2) (v:= .int .i64 (j:Int)) rfl (by kernel_rfl) (by kernel_rfl) (by kernel_rfl) (fun _ _ _ h=> h) (Or.inl ⟨by rfl, ?_⟩) hHeld ?_
   ·intro x hx;obtain ⟨hx1,hx2,_,_⟩:=hx;go_simp
   simp only [List.getElem_toArray,List.getElem_cons_succ,List.getElem_cons_zero,Act.put,List.setIfInBounds_toArray,List.set_cons_zero,List.set_cons_succ]
   refine wpAnyH_take (i:=3) (v:= .pointer (some ⟨b,o+j*34,none⟩)) rfl (by kernel_rfl) (by kernel_rfl) (by kernel_rfl) (fun _ _ _ h=> h) (Or.inl ⟨by rfl, ?_⟩) hHeld ?_
   ·intro x hx;obtain ⟨hx1,hx2,_,_⟩:=hx;go_simp
   simp only [List.getElem_toArray,List.getElem_cons_succ,List.getElem_cons_zero,Act.put,List.setIfInBounds_toArray,List.set_cons_zero,List.set_cons_succ]
   refine wpAnyH_take (i:=4) (v:= .agg DK.toArray) rfl (by kernel_rfl) (by kernel_rfl) (by kernel_rfl) (fun _ _ _ h=> h) (yieldsIf_load_mid (by rfl) 27 (.tmp 38) rfl b (o+j*34) rfl DK _ (fun x hx=> hx.2.2.1) hu rfl hi) hHeld ?_
   simp only [List.getElem_toArray,List.getElem_cons_succ,List.getElem_cons_zero,Act.put,List.setIfInBounds_toArray,List.set_cons_zero,List.set_cons_succ]
   refine wpAnyH_take (i:=5) (v:= .pointer (some ⟨w.heap.size+1,34,none⟩)) rfl (by kernel_rfl) (by kernel_rfl) (by kernel_rfl) (fun _ _ _ h=> h) (Or.inl ⟨by rfl, ?_⟩) hHeld ?_
   ·intro x hx;obtain ⟨hx1,hx2,_,_⟩:=hx;go_simp
   simp only [List.getElem_toArray,List.getElem_cons_succ,List.getElem_cons_zero,Act.put,List.setIfInBounds_toArray,List.set_cons_zero,List.set_cons_succ]
   refine wpAnyH_take (i:=6) (v:= .slice (some ⟨b2,o2,none⟩) n1 d1) rfl (by kernel_rfl) (by kernel_rfl) (by kernel_rfl) (fun _ _ _ h=> h) (Or.inl ⟨by rfl, ?_⟩) hHeld ?_
   ·intro x hx;obtain ⟨hx1,hx2,_,_⟩:=hx;go_simp
   simp only [List.getElem_toArray,List.getElem_cons_succ,List.getElem_cons_zero,Act.put,List.setIfInBounds_toArray,List.set_cons_zero,List.set_cons_succ]
   refine wpAnyH_take (i:=7) (v:= .int .i64 (j:Int)) rfl (by kernel_rfl) (by kernel_rfl) (by kernel_rfl) (fun _ _ _ h=> h) (Or.inl ⟨by rfl, ?_⟩) hHeld ?_
   ·intro x hx;obtain ⟨hx1,hx2,_,_⟩:=hx;go_simp
   simp only [List.getElem_toArray,List.getElem_cons_succ,List.getElem_cons_zero,Act.put,List.setIfInBounds_toArray,List.set_cons_zero,List.set_cons_succ]
   refine wpAnyH_take (i:=8) (v:= .pointer (some ⟨b2,o2+j*34,none⟩)) rfl (by kernel_rfl) (by kernel_rfl) (by kernel_rfl) (fun _ _ _ h=> h) (Or.inl ⟨by rfl, ?_⟩) hHeld ?_
   ·intro x hx;obtain ⟨hx1,hx2,_,_⟩:=hx;go_simp
   simp only [List.getElem_toArray,List.getElem_cons_succ,List.getElem_cons_zero,Act.put,List.setIfInBounds_toArray,List.set_cons_zero,List.set_cons_succ]
   refine wpAnyH_take (i:=9) (v:= .agg DK.toArray) rfl (by kernel_rfl) (by kernel_rfl) (by kernel_rfl) (fun _ _ _ h=> h) (yieldsIf_load_mid (by rfl) 27 (.tmp 43) rfl b2 (o2+j*34) rfl DK _ (fun x hx=> hx.2.2.2) hu rfl hi) hHeld ?_
   simp only [List.getElem_toArray,List.getElem_cons_succ,List.getElem_cons_zero,Act.put,List.setIfInBounds_toArray,List.set_cons_zero,List.set_cons_succ]
   refine wpAnyH_take (i:=10) (v:= .bool false) rfl (by kernel_rfl) (by kernel_rfl) (by kernel_rfl) (fun _ _ _ h=> h) (Or.inl ⟨by rfl, ?_⟩) hHeld ?_
   ·intro x _;go_simp
   simp only [List.getElem_toArray,List.getElem_cons_succ,List.getElem_cons_zero,Act.put,List.setIfInBounds_toArray,List.set_cons_zero,List.set_cons_succ]
   refine wpAnyH_done (by kernel_rfl) ?_ _
   refine NoPanic.normal ?_
   go_wp2_with fail
   go_roundg g
   case measure=> omega
   case rel=> exact ⟨j+1,p+1,by go_num,by omega,rfl⟩
end Go.Proofs.YtmkjcleecjjchaaGreatDoor
namespace Go.Proofs.YtmkjcleecjjchaaGreatDoor
open Go.RowKit Sh Jt Js Jo
set_option maxRecDepth 100000
theorem built_cS:Tryz.prog.built 27 [(0, .string ⟨#[99]⟩),(2, .int .i64 5)]=some (dv cS).toArray:=by kernel_rfl
theorem built_dS:Tryz.prog.built 25 [(0, .int .u8 1)]=some (lS.dig.map v8).toArray:=by kernel_rfl
theorem built_lS:Tryz.prog.built 27 [(0, .string ⟨#[108]⟩),(1, .agg (lS.dig.map v8).toArray),(2, .int .i64 7)]=some (dv lS).toArray:=built_desc [108] 7 lS.dig rfl
theorem sh_two {k:Nat} (hk:1≤k):Short k [⟨3,[],[50],0⟩]:=fun v hv=> by
 rw [List.mem_singleton.1 hv]
 exact ⟨Nat.zero_le _,hk⟩
theorem sh_R0:Short 1048576 R0:=by
 intro v hv
 unfold R0 at hv
 simp only [List.mem_cons,List.not_mem_nil,or_false]at hv
 rcases hv with rfl | rfl | rfl <;> exact ⟨by decide,by decide⟩
theorem fit_cS:FitD cS:=⟨by decide,by decide,by decide⟩
theorem fit_lS:FitD lS:=⟨by decide,by decide,by decide⟩
theorem fitS:FitM mS:=⟨fit_cS,fun d hd=> by rw [List.mem_singleton.1 hd];exact fit_lS,sh_R0,by decide⟩
def m0:Man:=⟨noD,[],[]⟩
theorem fit0:FitM m0:=⟨⟨by decide,by decide,by decide⟩,(fun d hd=> by cases hd),(fun v hv=> by cases hv),by decide⟩
theorem row0:rowM m0=[]:=row_not (.inl rfl)
theorem in0 (W:World):ManIn W m0 none 0 0 none 0 0:=⟨DescsAt.nil _ _ _,ValsAt.nil _ _ _,rfl⟩
theorem small_len {t:List UInt8} (h:Js.Row (rowM mS) t):t.length≤200000000:=by
 have h1:=rows_len h.2 (short_rowM fitS digS)
 have h2:=rowM_few mS
 obtain ⟨P,X,hX⟩:=row_is okS
 have h3:=hX.right.2
 have h4:(rowM mS).length=12:=h3
 rw [h4]at h1
 omega
theorem BytesAt.front {w:World} {A:Option Addr} {n c:Nat} {bs:List UInt8} (h:BytesAt w A n c bs) {k:Nat} (hk:k≤n):BytesAt w A k c (bs.take k):=by
 have h1:=h.len
 have h2:=h.cap
 refine ⟨by rw [List.length_take];omega,by omega,fun h0=> ?_⟩
 obtain ⟨b,o,e,hlt,hr⟩:=h.at_ (by omega)
 refine ⟨b,o,e,hlt,fun j v hj=> hr j v ?_⟩
 rw [List.map_take,List.getElem?_take]at hj
 split at hj
 ·exact hj
 ·cases hj
set_option maxHeartbeats 16000000 in
theorem mt_small (w:World) (hE:MEnv w):Calls Tryz.prog 8 #[] w fun e w'=> e= .returned (.bool true)∧Hid (Below w.heap.size w w'):=by
 have HE:=Lib.hid (fun W (q:Below w.heap.size w W)=> hE.below q)
 have HI:=Lib.hid (fun W (h:JEnv W)=> show Calls Tryz.prog 24 #[.int .i64 2] W _ from own_form (L:=[⟨3,[],[50],0⟩]) (n:=1) rfl (by decide) (by have:=jo_int W 2 (by decide) (by decide) h;rw [t_two]at this;exact this))
 have HT:=Lib.hid (fun W=> show Calls Tryz.prog 25 #[.string ⟨#[121]⟩] W _ from own_form (L:=[⟨4,[],[121],0⟩]) (n:=1) rfl (by decide) (by have:=jo_text W [121] (by decide);rw [f_y]at this;exact this))
 have hbs:=run_build_str2
 have hbl:=run_build_sls2
 obtain ⟨t,ht,hpt⟩:=man_print okS digS
 have HRT:=Lib.hid ht
 have HPT:=Lib.hid hpt
 obtain ⟨htk,ht4⟩:=small_text ht
 have HTK:=Lib.hid htk
 have htl:=small_len ht
 clear hE ht hpt htk
 have HB0:=Lib.hid (Below.refl w.heap.size w)
 go_enter Tryz.func8,Tryz.ntmps8
 go_wp2_with fail
 have HK:=Lib.hid (StrsAt.new2 w schemaK [120])
 have HB1:=Lib.hid (below_alloc' w (.cells #[.string (sb schemaK), .string (sb [120])] 9))
 change Hid (StrsAt (w.alloc (.cells #[.string ⟨#[115,99,104,101,109,97,86,101,114,115,105,111,110]⟩, .string ⟨#[120]⟩] 9)) _ _ _ _)at HK
 change Hid (Below _ w (w.alloc (.cells #[.string ⟨#[115,99,104,101,109,97,86,101,114,115,105,111,110]⟩, .string ⟨#[120]⟩] 9)))at HB1
 generalize w.alloc (.cells #[.string ⟨#[115,99,104,101,109,97,86,101,114,115,105,111,110]⟩, .string ⟨#[120]⟩] 9)=w1 at*
 refine (HI.out _ (HE.out _ HB1.out).j).mono ?_
 rintro e w2 ⟨g2,k2,rfl,H2⟩
 have HB2:=Lib.hid (HB1.out.trans (H2.out.2.2.mono HB1.out.size))
 have HK2:=Lib.hid (HK.out.below H2.out.2.2)
 have HV2:=Lib.hid H2.out.2.1
 clear H2 HB1 HK
 go_wp2_with fail
 refine (HT.out _).mono ?_
 rintro e w3 ⟨g3,k3,rfl,H3⟩
 have HB3:=Lib.hid (HB2.out.trans (H3.out.2.2.mono HB2.out.size))
 have HK3:=Lib.hid (HK2.out.below H3.out.2.2)
 have HV2:=Lib.hid (HV2.out.below H3.out.2.2)
 have HV3:=Lib.hid H3.out.2.1
 clear H3 HB2 HK2
 go_wp2_with fail
 have HS4:=Lib.hid (SlsAt.new2 w3 HV2.out HV3.out)
 have KA4:=Lib.hid (below_alloc' w3 (.cells #[.slice (some ⟨g2,0,none⟩) 1 k2, .slice (some ⟨g3,0,none⟩) 1 k3] 29))
 have HB4:=Lib.hid (HB3.out.trans (KA4.out.mono HB3.out.size))
 refine (own_form (L:=R0) (n:=3) rfl (by decide) (by have:=jo_object _ _ 2 2 _ (HK3.out.below KA4.out) (by decide) (show ∀k∈[schemaK,[120]],k.length≤1000000000 by decide) _ 2 2 _ HS4.out (by decide) (short_two (sh_two (by decide)) sh_sy) (Nat.le_of_ble_eq_true rfl) (HE.out _ HB4.out).j.tab;rw [show rowsOf _=[[⟨3,[],[50],0⟩],[⟨4,[],[121],0⟩]]from rfl,obj2]at this;exact this)).mono ?_
 rintro e w5 ⟨g5,k5,rfl,H5⟩
 have HB5:=Lib.hid (HB4.out.trans (H5.out.2.2.mono HB4.out.size))
 have HV5:=Lib.hid H5.out.2.1
 clear H5 HB4 HS4 KA4 HK3 HB3 HV2 HV3 HI HT hbs hbl
 have HBC:=Lib.hid built_cS
 have HBG:=Lib.hid built_dS
 have HBL:=Lib.hid built_lS
 have HBM:=Lib.hid (built_manD (c:=cS) rfl (some ⟨w5.heap.size,0,none⟩) (some ⟨g5,0,none⟩) 1 1 3 k5)
 have HML:=Lib.hid (mv_len (c:=cS) rfl (.slice (some ⟨w5.heap.size,0,none⟩) 1 1) (.slice (some ⟨g5,0,none⟩) 3 k5))
 have HM1:=Lib.hid (mv_one (c:=cS) (a:= .slice (some ⟨w5.heap.size,0,none⟩) 1 1) (b:= .slice (some ⟨g5,0,none⟩) 3 k5) rfl rfl)
 have HDR:=Lib.hid (desc_row1 w5 (d:=lS) rfl (C:=(dv lS).toArray) rfl)
 have HB6:=Lib.hid (HB5.out.trans ((below_alloc' w5 (.cells (dv lS).toArray 27)).mono HB5.out.size))
 have HV6:=Lib.hid (HV5.out.below (below_alloc' w5 (.cells (dv lS).toArray 27)))
 have HIN6:=Lib.hid (show ManIn _ mS (some ⟨w5.heap.size,0,none⟩) 1 1 (some ⟨g5,0,none⟩) 3 k5 from ⟨HDR.out,HV6.out,rfl⟩)
 obtain ⟨CC,hCC⟩:∃CC,CC=dv cS:=⟨_,rfl⟩
 obtain ⟨LL,hLL⟩:∃LL,LL=dv lS:=⟨_,rfl⟩
 obtain ⟨GG,hGG⟩:∃GG,GG=lS.dig.map v8:=⟨_,rfl⟩
 obtain ⟨MV,hMV⟩:∃MV,MV=mv cS (.slice (some ⟨w5.heap.size,0,none⟩) 1 1) (.slice (some ⟨g5,0,none⟩) 3 k5):=⟨_,rfl⟩
 rw [←hCC]at HBC HBM
 rw [←hGG]at HBG HBL
 rw [←hLL]at HBL HB6 HIN6
 rw [←hMV]at HBM HML HM1
 have HLL:=Lib.hid hLL
 have HMV:=Lib.hid hMV
 clear hCC hLL hGG hMV HDR HV6 HV5
 go_upto_region 3 with (first
  | ((with_reducible refine build_all ?_ 27 #[(0, .const (.string ⟨#[99]⟩)),(2, .const (.int .i64 5))] ?_ CC.toArray ?_ ?_);rfl;rfl;go_must (refine Eq.trans ?_ HBC.out;kernel_rfl))
  | ((with_reducible refine build_all ?_ 25 #[(0, .const (.int .u8 1))] ?_ GG.toArray ?_ ?_);rfl;rfl;go_must (refine Eq.trans ?_ HBG.out;kernel_rfl))
  | ((with_reducible refine build_all ?_ 27 #[(0, .const (.string ⟨#[108]⟩)),(1, .tmp 17),(2, .const (.int .i64 7))] ?_ LL.toArray ?_ ?_);rfl;rfl;go_must (refine Eq.trans ?_ HBL.out;kernel_rfl))
  | (with_reducible refine build_desc1 rfl _ rfl lS LL.toArray (by rw [HLL.out]) rfl rfl ?_)
  | ((with_reducible refine build_all ?_ 31 #[(0, .tmp 16),(1, .tmp 19),(2, .tmp 20)] ?_ MV.toArray ?_ ?_);rfl;rfl;go_must (refine Eq.trans ?_ HBM.out;kernel_rfl))
  | ((with_reducible refine store_all ?_ 31 (.tmp 2) (.tmp 21) ?_ (w5.heap.size+1) MV ?_ ?_ (mv noD (.slice none 0 0) (.slice none 0 0)) ?_ ?_ ?_ ?_ ?_);rfl;rfl;go_must ((first | rfl | simp);rfl;(rw [HML.out];rfl);exact Row.at_ _ _ _ rfl (by simp);(rw [HML.out];exact mt_sizeM);exact HM1.out;intro w7 R7 K7 E7)))
 have hsz:(w5.alloc (.cells LL.toArray 27)).heap.size=w5.heap.size+1:=by simp
 rw [←hsz]at K7 R7
 generalize w5.alloc (.cells LL.toArray 27)=w6 at*
 have KB7:=Lib.hid (show Below w6.heap.size w6 w7 from (kept_stored K7.out).below (Nat.le_refl _) (fun _ _ h=> h))
 have HB7:=Lib.hid (HB6.out.trans (KB7.out.mono HB6.out.size))
 have HIN7:=Lib.hid (HIN6.out.below KB7.out)
 rw [←hsz]
 generalize w6.heap.size=b2 at*
 generalize w5.heap.size=b1 at*
 have HPR:=Lib.hid (mt_print w7 mS (some ⟨b1,0,none⟩) 1 1 (some ⟨g5,0,none⟩) 3 k5 HIN7.out (by decide) fitS (HE.out _ HB7.out) HRT.out)
 change Hid (Calls _ _ #[.agg (mv cS (.slice (some ⟨b1,0,none⟩) 1 1) (.slice (some ⟨g5,0,none⟩) 3 k5)).toArray] _ _)at HPR
 rw [←HMV.out]at HPR
 clear K7 E7 KB7 HIN6 HB6 HBC HBL HBG HBM HB5 hsz
 go_wp2_with ((with_reducible refine load_all ?_ 31 (.tmp 2) ?_ b2 0 MV MV.toArray ?_ _ ?_ Tryz.underlying31 ?_ ?_ ?_ ?_);rfl;rfl;go_must (rfl;exact rangeAt_row R7.out;rfl;(rw [HML.out];exact mt_sizeM);rfl))
 refine HPR.out.mono ?_
 rintro e w8 ⟨v8,rfl,H8⟩
 obtain ⟨A8,c8,rfl,hby,_⟩:=H8.out.1.bytes
 have HBY:=Lib.hid hby
 have HB8:=Lib.hid (HB7.out.trans (H8.out.2.mono HB7.out.size))
 have HIN8:=Lib.hid (HIN7.out.below H8.out.2)
 have R8:=Lib.hid (show Row w8 b2 31 MV from R7.out.below H8.out.2 R7.out.lt)
 clear HPR H8 hby HIN7 R7 HB7
 have hl40:¬((t.length:Int) < 40):=by omega
 have hl40d:decide ((t.length:Int) < 40)=false:=decide_eq_false hl40
 have hl29:(29:Int)≤(t.length:Int):=by omega
 have HPA:=Lib.hid (mt_parse w8 A8 t.length c8 t HBY.out (by omega) (HE.out _ HB8.out))
 rw [HPT.out]at HPA
 go_wp2_with fail
 refine HPA.out.mono ?_
 rintro e w9 ⟨A9,c9,E9,d9,rfl,HO9,HV9,_,H9⟩
 have HB9:=Lib.hid (HB8.out.trans (H9.mono HB8.out.size))
 have HIN9:=Lib.hid (HIN8.out.below H9)
 have R9:=Lib.hid (show Row w9 b2 31 MV from R8.out.below H9 R8.out.lt)
 have HBY9:=Lib.hid (HBY.out.below H9)
 obtain ⟨_,_,e1,hd9,_⟩:=HO9.descs
 simp only [Value.slice.injEq]at e1
 obtain ⟨rfl,_,rfl⟩:=e1
 have HX9:=Lib.hid (show ManIn w9 mS A9 1 c9 E9 3 d9 from ⟨hd9,HV9.at_.1,rfl⟩)
 clear HO9 hd9 HV9 H9 HBY HIN8 R8 HB8 HPA
 obtain ⟨MX,hMX⟩:∃MX,MX=mv cS (.slice A9 1 c9) (.slice E9 3 d9):=⟨_,rfl⟩
 have HXL:=Lib.hid (mv_len (c:=cS) rfl (.slice A9 1 c9) (.slice E9 3 d9))
 have HX1:=Lib.hid (mv_one (c:=cS) (a:= .slice A9 1 c9) (b:= .slice E9 3 d9) rfl rfl)
 have HX34:=Lib.hid (mv_at (c:=cS) rfl (.slice A9 1 c9) (.slice E9 3 d9)).1
 rw [←hMX]at HXL HX1 HX34
 rw [show mv mS.config (.slice A9 mS.layers.length c9) (.slice E9 mS.rest.length d9)=MX from hMX.symm]
 have HMX:=Lib.hid hMX
 clear hMX
 go_upto_region 5 with ((with_reducible refine store_all ?_ 31 (.tmp 5) (.tmp 30) ?_ w9.heap.size MX ?_ ?_ (mv noD (.slice none 0 0) (.slice none 0 0)) ?_ ?_ ?_ ?_ ?_);rfl;rfl;go_must (rfl;rfl;(rw [HXL.out];rfl);exact Row.at_ _ _ _ rfl rfl;(rw [HXL.out];exact mt_sizeM);exact HX1.out;intro w10 R10 K10 E10))
 have KB10:=Lib.hid (show Below w9.heap.size w9 w10 from (kept_stored K10.out).below (Nat.le_refl _) (fun _ _ h=> h))
 have HB10:=Lib.hid (HB9.out.trans (KB10.out.mono HB9.out.size))
 have HIN10:=Lib.hid (HIN9.out.below KB10.out)
 have HX10:=Lib.hid (HX9.out.below KB10.out)
 have Q10:=Lib.hid (show Row w10 b2 31 MV from R9.out.below KB10.out R9.out.lt)
 have HBY10:=Lib.hid (HBY9.out.below KB10.out)
 clear K10 E10 KB10 HB9 HIN9 HX9 R9 HBY9
 generalize w9.heap.size=b5 at*
 have HC:=Lib.hid (BytesAt.const w10 [123,125] 5 (2,3) (C:=#[.int .u8 123, .int .u8 125]) rfl (n:=2) rfl)
 have HB11:=Lib.hid (HB10.out.trans ((below_alloc' w10 (.cells #[.int .u8 123, .int .u8 125] 5 (2,3))).mono HB10.out.size))
 have HIN11:=Lib.hid (HIN10.out.below (below_alloc' w10 (.cells #[.int .u8 123, .int .u8 125] 5 (2,3))))
 have HX11:=Lib.hid (HX10.out.below (below_alloc' w10 (.cells #[.int .u8 123, .int .u8 125] 5 (2,3))))
 have Q11:=Lib.hid (show Row _ b2 31 MV from Q10.out.below (below_alloc' w10 (.cells #[.int .u8 123, .int .u8 125] 5 (2,3))) Q10.out.lt)
 have R11:=Lib.hid (show Row _ b5 31 MX from R10.out.below (below_alloc' w10 (.cells #[.int .u8 123, .int .u8 125] 5 (2,3))) R10.out.lt)
 have HBY11:=Lib.hid (HBY10.out.below (below_alloc' w10 (.cells #[.int .u8 123, .int .u8 125] 5 (2,3))))
 have kc:=fun (W:World) (C:Array Value) (n c:Nat)=> Lib.run_convert_bytes_const (P:=Tryz.prog) W 22 5 C n c Tryz.underlying22 Tryz.underlying5
 have HPE:=Lib.hid (mt_parse _ _ 2 2 [123,125] HC.out (by decide) (HE.out _ HB11.out))
 rw [empty_parse]at HPE
 clear HB10 HIN10 HX10 Q10 R10 HBY10 HC
 go_wp2_with fail
 refine HPE.out.mono ?_
 rintro e w12 ⟨rfl,_,H12⟩
 have HB12:=Lib.hid (HB11.out.trans (H12.mono HB11.out.size))
 have HIN12:=Lib.hid (HIN11.out.below H12)
 have HX12:=Lib.hid (HX11.out.below H12)
 have Q12:=Lib.hid (show Row w12 b2 31 MV from Q11.out.below H12 Q11.out.lt)
 have R12:=Lib.hid (show Row w12 b5 31 MX from R11.out.below H12 R11.out.lt)
 have HBY12:=Lib.hid (HBY11.out.below H12)
 clear H12 HB11 HIN11 HX11 Q11 R11 HBY11 HPE
 go_upto_region 6 with ((with_reducible refine store_all ?_ 31 (.tmp 7) (.tmp 36) ?_ w12.heap.size (mv noD (.slice none 0 0) (.slice none 0 0)) ?_ ?_ (mv noD (.slice none 0 0) (.slice none 0 0)) ?_ ?_ ?_ ?_ ?_);rfl;rfl;go_must (rfl;rfl;rfl;exact Row.at_ _ _ _ rfl rfl;exact mv_size noD_len;exact mv_one rfl rfl;intro w13 R13 K13 E13))
 have KB13:=Lib.hid (show Below w12.heap.size w12 w13 from (kept_stored K13.out).below (Nat.le_refl _) (fun _ _ h=> h))
 have HB13:=Lib.hid (HB12.out.trans (KB13.out.mono HB12.out.size))
 have HIN13:=Lib.hid (HIN12.out.below KB13.out)
 have HX13:=Lib.hid (HX12.out.below KB13.out)
 have Q13:=Lib.hid (show Row w13 b2 31 MV from Q12.out.below KB13.out Q12.out.lt)
 have X13:=Lib.hid (show Row w13 b5 31 MX from R12.out.below KB13.out R12.out.lt)
 have HBY13:=Lib.hid (HBY12.out.below KB13.out)
 clear R13 K13 E13 KB13 HB12 HIN12 HX12 Q12 R12 HBY12
 have HPZ:=Lib.hid (mt_print_no w13 m0 none 0 0 none 0 0 (in0 _) (by decide) fit0 (HE.out _ HB13.out) row0)
 change Hid (Calls _ _ #[.agg (mv noD (.slice none 0 0) (.slice none 0 0)).toArray] _ _)at HPZ
 go_wp2_with ((with_reducible refine build_all ?_ 31 #[] ?_ (mv noD (.slice none 0 0) (.slice none 0 0)).toArray ?_ ?_);rfl;rfl;go_must (refine Eq.trans ?_ built_manZ;kernel_rfl))
 refine HPZ.out.mono ?_
 rintro e w14 ⟨rfl,H14⟩
 have HB14:=Lib.hid (HB13.out.trans (H14.out.mono HB13.out.size))
 have HIN14:=Lib.hid (HIN13.out.below H14.out)
 have HX14:=Lib.hid (HX13.out.below H14.out)
 have Q14:=Lib.hid (show Row w14 b2 31 MV from Q13.out.below H14.out Q13.out.lt)
 have X14:=Lib.hid (show Row w14 b5 31 MX from X13.out.below H14.out X13.out.lt)
 have HBY14:=Lib.hid (HBY13.out.below H14.out)
 clear H14 HB13 HIN13 HX13 Q13 X13 HBY13 HPZ
 have e34:w14.cell? ⟨b5,34,none⟩=some (.slice A9 1 c9):=X14.out.cell HX34.out
 have hcv:(convert 22 9 (.slice A8 29 c8)).run Tryz.prog w14= .ok (.string ⟨#[123,34,99,111,110,102,105,103,34,58,123,34,100,105,103,101,115,116,34,58,34,115,104,97,50,53,54,58,48]⟩) w14:=by
  have:=conv_bytes w14 A8 29 c8 (t.take 29) (HBY14.out.front (by omega))
  rw [HTK.out]at this
  exact this
 have hcap:(t.length:Int)≤(c8:Int):=by have:=HBY14.out.cap;omega
 have h29c:(29:Int)≤(c8:Int):=by omega
 have HSA:=Lib.hid (mt_same w14 mS A9 1 c9 E9 3 d9 (some ⟨b1,0,none⟩) 1 (some ⟨g5,0,none⟩) k5 HX14.out HIN14.out (by decide) (by decide))
 change Hid (Calls _ _ #[.agg (mv cS (.slice A9 1 c9) (.slice E9 3 d9)).toArray, .agg (mv cS (.slice (some ⟨b1,0,none⟩) 1 1) (.slice (some ⟨g5,0,none⟩) 3 k5)).toArray] _ _)at HSA
 rw [←HMV.out,←HMX.out]at HSA
 have HRI:=Lib.hid (fun W (q:Below w14.heap.size w14 W)=> mt_right W mS (some ⟨b1,0,none⟩) 1 1 (some ⟨g5,0,none⟩) 3 k5 (HIN14.out.below q) (by decide) fitS (HE.out _ (HB14.out.trans (q.mono HB14.out.size))))
 change Hid (∀W,_→Calls _ _ #[.agg (mv cS (.slice (some ⟨b1,0,none⟩) 1 1) (.slice (some ⟨g5,0,none⟩) 3 k5)).toArray] _ fun e w'=> e= .returned (.bool (rightM mS))∧_)at HRI
 rw [←HMV.out,rightM_yes HRT.out]at HRI
 go_wp2_with (first
  | ((with_reducible refine load_all ?_ 31 (.tmp 5) ?_ b5 0 MX MX.toArray ?_ _ ?_ Tryz.underlying31 ?_ ?_ ?_ ?_);rfl;rfl;go_must (rfl;exact rangeAt_row X14.out;rfl;(rw [HXL.out];exact mt_sizeM);rfl))
  | ((with_reducible refine load_all ?_ 31 (.tmp 2) ?_ b2 0 MV MV.toArray ?_ _ ?_ Tryz.underlying31 ?_ ?_ ?_ ?_);rfl;rfl;go_must (rfl;exact rangeAt_row Q14.out;rfl;(rw [HML.out];exact mt_sizeM);rfl)))
 refine HSA.out.mono ?_
 rintro e w15 ⟨rfl,H15⟩
 have Q15:=Lib.hid (show Row w15 b2 31 MV from Q14.out.below H15.out Q14.out.lt)
 have HB15:=Lib.hid (HB14.out.trans (H15.out.mono HB14.out.size))
 go_wp2_with ((with_reducible refine load_all ?_ 31 (.tmp 2) ?_ b2 0 MV MV.toArray ?_ _ ?_ Tryz.underlying31 ?_ ?_ ?_ ?_);rfl;rfl;go_must (rfl;exact rangeAt_row Q15.out;rfl;(rw [HML.out];exact mt_sizeM);rfl))
 refine (HRI.out _ H15.out).mono ?_
 rintro e w16 ⟨rfl,H16⟩
 have HB16:=Lib.hid (HB15.out.trans (H16.out.mono HB15.out.size))
 go_wp2_with fail
 go_ret
 exact ⟨rfl,HB16⟩
end Go.Proofs.YtmkjcleecjjchaaGreatDoor
