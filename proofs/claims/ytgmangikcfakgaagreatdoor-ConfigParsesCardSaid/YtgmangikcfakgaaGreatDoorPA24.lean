import Derived.Test.YtgmangikcfakgaaGreatDoorPA4
import Derived.Test.YtgmangikcfakgaaGreatDoorPA9
set_option maxRecDepth 100000
set_option maxHeartbeats 40000000
namespace Go.Proofs.YtgmangikcfakgaaGreatDoor
open Go.RowKit Sh
theorem formed32 (x0 x1 x2 x3 x4 x5 x6 x7 x8 x9 x10 x11 x12 x13 x14 x15 x16 x17 x18 x19 x20 x21 x22 x23 x24 x25 x26 x27 x28 x29 x30 x31:Value):(Value.agg #[x0,x1,x2,x3,x4,x5,x6,x7,x8,x9,x10,x11,x12,x13,x14,x15,x16,x17,x18,x19,x20,x21,x22,x23,x24,x25,x26,x27,x28,x29,x30,x31]).formed Tryz.prog 52=true:=by kernel_rfl
theorem qxa:Tryz.prog.cellsOf 5=1:=by kernel_rfl
theorem cells32:Tryz.prog.cellsOf 52=32:=by kernel_rfl
theorem lit1 (x:UInt8):Tryz.prog.keyLits 4 5 [v8 x]=some [.int .u8 (n8 x)]:=by
 have h0:=qec x
 have h1:=n8_lt x
 have hw:(Lit.int .u8 (n8 x)).wf=true:=by
  simp [Lit.wf,IntKind.min,IntKind.max,IntKind.signed,IntKind.bits]
  omega
 unfold Program.keyLits
 rw [Tryz.underlying5]
 simp [v8,hw]
theorem key32:Tryz.prog.keyTypeAt 3 52=true:=by kernel_rfl
def litsOf (l:List UInt8):List Lit:=l.map fun x=> Lit.int .u8 (n8 x)
theorem qk7 (l:List UInt8) (h:l.length=32):Tryz.prog.keyLits 5 52 (l.map v8)=some (litsOf l):=by
 have hm:∀rs:List Nat,(∀i∈rs,i < 32)→rs.mapM (fun i=> Tryz.prog.keyLits 4 5 (((l.map v8).drop (i*Tryz.prog.cellsOf 5)).take (Tryz.prog.cellsOf 5)))=some (rs.map fun i=> [Lit.int .u8 (n8 (l.getD i 0))]):=by
  intro rs;induction rs with
  | nil=> intro _;rfl
  | cons i r ih=>
   intro hr;have hls:=ih (fun k hk=> hr k (List.mem_cons_of_mem _ hk))
   have hi:i < l.length:=by rw [h];exact hr i (List.mem_cons_self)
   have e:((l.map v8).drop (i*Tryz.prog.cellsOf 5)).take (Tryz.prog.cellsOf 5)=[v8 l[i]]:=by
    rw [qxa,Nat.mul_one,List.drop_eq_getElem_cons (by simpa using hi)];simp
   rw [List.mapM_cons,hls,e,lit1];simp [List.getD,hi]
 have h2:=hm (List.range 32) (fun i hi=> List.mem_range.1 hi)
 unfold Program.keyLits
 rw [Tryz.underlying52]
 simp only [List.length_map,h,cells32,if_true]
 rw [h2]
 match l,h with
 | [x0,x1,x2,x3,x4,x5,x6,x7,x8,x9,x10,x11,x12,x13,x14,x15,x16,x17,x18,x19,x20,x21,x22,x23,x24,x25,x26,x27,x28,x29,x30,x31],_=> rfl
theorem qg6 {w:World} {ops:Array Oper} {rest:List Oper} {o:Oper} {a:Act} {Q:Exit→Act→World→Prop} (hw:Region.wanted o (yielded ops a.tmps)=true) (x:Operand) (ho:o.op= .load 52 x)
  (b:Nat) (D:List Value) (hD:D.length=32) (hx:a.eval x= .pointer (some ⟨b,0,none⟩)) (hr:Row w b 52 D)
  (h:wpList Tryz.prog ops Q rest (a.put o.dst (.agg D.toArray)) w):wpList Tryz.prog ops Q (o::rest) a w:=
 qa5 hw fun _ hK=> wp_load_row 52 x ho b hx 52 D.toArray (0,0) _ hr Tryz.underlying52 rfl (by rw [List.size_toArray,hD];kernel_rfl) (hK _ _ h)
def hexZ (d:List UInt8) (k:Nat):List UInt8:=Dg.pairs (d.take k)++List.replicate (64 - 2*k) 0
theorem qjd (d:List UInt8) (k:Nat) (hd:d.length=32) (hk:k≤32):(hexZ d k).length=64:=by
 rw [hexZ,List.length_append,Dg.qby,List.length_take,List.length_replicate];omega
theorem qxe (d:List UInt8) (k:Nat) (hd:d.length=32) (hk:k < 32):
  ((hexZ d k).set (2*k) (Dg.hx ((d.getD k 0).toNat / 16))).set (2*k+1) (Dg.hx ((d.getD k 0).toNat % 16))=hexZ d (k+1):=by
 have hp:(Dg.pairs (d.take k)).length=2*k:=by rw [Dg.qby,List.length_take];omega
 unfold hexZ
 rw [List.set_append_right _ _ (by omega),List.set_append_right _ _ (by omega),hp,Nat.sub_self,show 2*k+1 - 2*k=1 by omega,show 64 - 2*k=(64 - 2*(k+1))+1+1 by omega,List.replicate_succ,List.replicate_succ,List.set_cons_zero,List.set_cons_succ,List.set_cons_zero]
 have hlt:k < d.length:=by omega
 rw [List.take_add_one,List.getElem?_eq_getElem hlt,Option.toList_some,Dg.qop]
 simp only [List.getD,List.getElem?_eq_getElem hlt,Option.getD_some,Dg.pairs,List.append_assoc,List.cons_append,List.nil_append]
theorem qzh (d:List UInt8) (hd:d.length=32):hexZ d 32=Dg.pairs d:=by
 rw [hexZ,List.take_of_length_le (by omega)];simp
structure PrintAt (w wr:World) (d:List UInt8) (k:Nat):Prop where
 row:Row wr (w.heap.size+1) 168 ((hexZ d k).map v8)
 below:Below w.heap.size w wr
theorem qoc (W:World):(Instr.index 9 (.string ⟨#[48,49,50,51,52,53,54,55,56,57,97,98,99,100,101,102]⟩) (.int .u8 0)).run Tryz.prog W= .ok (.int .u8 48) W:=by kernel_rfl
theorem qps (W:World):(Instr.index 9 (.string ⟨#[48,49,50,51,52,53,54,55,56,57,97,98,99,100,101,102]⟩) (.int .u8 1)).run Tryz.prog W= .ok (.int .u8 49) W:=by kernel_rfl
theorem qpv (W:World):(Instr.index 9 (.string ⟨#[48,49,50,51,52,53,54,55,56,57,97,98,99,100,101,102]⟩) (.int .u8 2)).run Tryz.prog W= .ok (.int .u8 50) W:=by kernel_rfl
theorem qpu (W:World):(Instr.index 9 (.string ⟨#[48,49,50,51,52,53,54,55,56,57,97,98,99,100,101,102]⟩) (.int .u8 3)).run Tryz.prog W= .ok (.int .u8 51) W:=by kernel_rfl
theorem qql (W:World):(Instr.index 9 (.string ⟨#[48,49,50,51,52,53,54,55,56,57,97,98,99,100,101,102]⟩) (.int .u8 4)).run Tryz.prog W= .ok (.int .u8 52) W:=by kernel_rfl
theorem qpe (W:World):(Instr.index 9 (.string ⟨#[48,49,50,51,52,53,54,55,56,57,97,98,99,100,101,102]⟩) (.int .u8 5)).run Tryz.prog W= .ok (.int .u8 53) W:=by kernel_rfl
theorem qpn (W:World):(Instr.index 9 (.string ⟨#[48,49,50,51,52,53,54,55,56,57,97,98,99,100,101,102]⟩) (.int .u8 6)).run Tryz.prog W= .ok (.int .u8 54) W:=by kernel_rfl
theorem qp1 (W:World):(Instr.index 9 (.string ⟨#[48,49,50,51,52,53,54,55,56,57,97,98,99,100,101,102]⟩) (.int .u8 7)).run Tryz.prog W= .ok (.int .u8 55) W:=by kernel_rfl
theorem qoq (W:World):(Instr.index 9 (.string ⟨#[48,49,50,51,52,53,54,55,56,57,97,98,99,100,101,102]⟩) (.int .u8 8)).run Tryz.prog W= .ok (.int .u8 56) W:=by kernel_rfl
theorem qqa (W:World):(Instr.index 9 (.string ⟨#[48,49,50,51,52,53,54,55,56,57,97,98,99,100,101,102]⟩) (.int .u8 9)).run Tryz.prog W= .ok (.int .u8 57) W:=by kernel_rfl
theorem qn9 (W:World):(Instr.index 9 (.string ⟨#[48,49,50,51,52,53,54,55,56,57,97,98,99,100,101,102]⟩) (.int .u8 10)).run Tryz.prog W= .ok (.int .u8 97) W:=by kernel_rfl
theorem qn4 (W:World):(Instr.index 9 (.string ⟨#[48,49,50,51,52,53,54,55,56,57,97,98,99,100,101,102]⟩) (.int .u8 11)).run Tryz.prog W= .ok (.int .u8 98) W:=by kernel_rfl
theorem qn8 (W:World):(Instr.index 9 (.string ⟨#[48,49,50,51,52,53,54,55,56,57,97,98,99,100,101,102]⟩) (.int .u8 12)).run Tryz.prog W= .ok (.int .u8 99) W:=by kernel_rfl
theorem qn6 (W:World):(Instr.index 9 (.string ⟨#[48,49,50,51,52,53,54,55,56,57,97,98,99,100,101,102]⟩) (.int .u8 13)).run Tryz.prog W= .ok (.int .u8 100) W:=by kernel_rfl
theorem qn1 (W:World):(Instr.index 9 (.string ⟨#[48,49,50,51,52,53,54,55,56,57,97,98,99,100,101,102]⟩) (.int .u8 14)).run Tryz.prog W= .ok (.int .u8 101) W:=by kernel_rfl
theorem qn0 (W:World):(Instr.index 9 (.string ⟨#[48,49,50,51,52,53,54,55,56,57,97,98,99,100,101,102]⟩) (.int .u8 15)).run Tryz.prog W= .ok (.int .u8 102) W:=by kernel_rfl
theorem qje (k:Nat) (hk:k < 16) (W:World):(Instr.index 9 (.string ⟨#[48,49,50,51,52,53,54,55,56,57,97,98,99,100,101,102]⟩) (.int .u8 (k:Int))).run Tryz.prog W= .ok (v8 (Dg.hx k)) W:=by
 have h:k=0∨k=1∨k=2∨k=3∨k=4∨k=5∨k=6∨k=7∨k=8∨k=9∨k=10∨k=11∨k=12∨k=13∨k=14∨k=15:=by omega
 rcases h with rfl | rfl | rfl | rfl | rfl | rfl | rfl | rfl | rfl | rfl | rfl | rfl | rfl | rfl | rfl | rfl
 ·exact qoc W
 ·exact qps W
 ·exact qpv W
 ·exact qpu W
 ·exact qql W
 ·exact qpe W
 ·exact qpn W
 ·exact qp1 W
 ·exact qoq W
 ·exact qqa W
 ·exact qn9 W
 ·exact qn4 W
 ·exact qn8 W
 ·exact qn6 W
 ·exact qn1 W
 ·exact qn0 W
theorem qry (d:List UInt8) (hd:d.length=32) (k:Nat) (hk:k < 32) (W:World):(Instr.index 52 (.agg (d.map v8).toArray) (.int .i64 (k:Int))).run Tryz.prog W= .ok (v8 (d.getD k 0)) W:=by
 simp [Instr.index,run_underlying Tryz.underlying52,Tryz.sizeOf5,part,Tryz.isAgg5,asIntOf,Result.andThen]
 rw [show d[k]? =some (d.getD k 0)from by simp [List.getD,hd,hk]]
 simp [Sem.run_pure]
 exact fun h=> absurd hk (by omega)
theorem qwr (bs:List UInt8):∀r:ByteArray,(bs.map n8).foldl (fun r n=> r.push (UInt8.ofNat n.toNat)) r=⟨r.data++bs.toArray⟩:=by
 induction bs with
 | nil=> intro r;simp
 | cons x l ih=>
  intro r;rw [List.map_cons,List.foldl_cons,ih];congr 1
  rw [show UInt8.ofNat (n8 x).toNat=x from by rw [n8,Int.toNat_natCast,UInt8.ofNat_toNat]];simp [ByteArray.push]
theorem qre (w:World) (a:Addr) (c:Nat) (bs:List UInt8) (h:∀j v,(bs.map v8)[j]? =some v→w.cell? (a.add j)=some v) (n:Nat) (hn:bs.length=n):
  (convert 22 9 (.slice (some a) n c)).run Tryz.prog w= .ok (.string ⟨bs.toArray⟩) w:=by
 subst hn
 have hl:=run_loadCells_list (P:=Tryz.prog) w a (bs.map v8) h
 rw [List.length_map]at hl
 have e:bs.map v8=(bs.map n8).map (Value.int .u8):=by rw [List.map_map];rfl
 rw [e]at hl
 rw [run_convert_bytes_string w _ _ _ _ _ _ Tryz.underlying22 Tryz.underlying5 Tryz.underlying9,run_bytesToString w a bs.length c (bs.map n8) hl,qwr]
 simp
theorem qwq (d:List UInt8) (hd:d.length=32) (w:World):
  Calls Tryz.prog 112 #[.agg (d.map v8).toArray] w fun e w'=> e= .returned (.string ⟨(Dg.text d).toArray⟩)∧Below w.heap.size w w':=by
 have HD:=Qh hd
 have hdl:(d.map v8).length=32:=by rw [List.length_map];exact hd
 have HDL:=Qh hdl
 clear hdl hd
 generalize hDD:d.map v8=D at*
 have HDD:=Qh hDD
 clear hDD
 go_enter Tryz.func112,Tryz.ntmps112
 go_wp2_with ((with_reducible refine wpList_load_row ?_ 52 (.tmp 1) ?_ w.heap.size ?_ 52 D.toArray (0,0) _ ?_ Tryz.underlying52 ?_ ?_ ?_);rfl;rfl;go_must (rfl;exact Row.alloc (Row.at_ _ _ D rfl rfl) _;rfl;(rw [List.size_toArray,HDL.out];kernel_rfl)))
 have h0:PrintAt w ((w.alloc (.cells D.toArray 52)).alloc (.cells (List.replicate 64 (v8 0)).toArray 168)) d 0:=
  ⟨Row.at_ _ _ _ (by rw [hexZ];simp [Dg.pairs]) (by simp),((Below.refl _ _).alloc (Nat.le_refl _) _).alloc (by simp) _⟩
 have H0:=Qh h0
 clear h0
 go_loopw [7] (fun i wr=> ∃k:Nat,k≤32∧i= .int .i64 k∧Hid (PrintAt w wr d k)) (fun i _=> 32 - (intOf i).toNat)
 case atStart=> exact ⟨0,Nat.zero_le _,rfl,H0⟩
 case round=>
  obtain ⟨k,hk,rfl,hs⟩:=hrel
  by_cases hlt:k < 32
  ·have l0:0≤(k:Int)∧(k:Int) < 32:=by omega
   have hi1:∀W,(Instr.index 52 (.agg D.toArray) (.int .i64 (k:Int))).run Tryz.prog W= .ok (.int .u8 (n8 (d.getD k 0))) W:=fun W=> by
    rw [←HDD.out];exact qry d HD.out k hlt W
   have hst:=qxe d k HD.out hlt
   generalize hx:d.getD k 0=x at*;have hxl:=x.toNat_lt
   have hi2:∀W,(Instr.index 9 (.string ⟨#[48,49,50,51,52,53,54,55,56,57,97,98,99,100,101,102]⟩) (.int .u8 (n8 x / 16))).run Tryz.prog W= .ok (.int .u8 (n8 (Dg.hx (x.toNat / 16)))) W:=fun W=> by
    have h:=qje (x.toNat / 16) (by omega) W
    rw [Int.natCast_ediv]at h
    exact h
   have hi3:∀W,(Instr.index 9 (.string ⟨#[48,49,50,51,52,53,54,55,56,57,97,98,99,100,101,102]⟩) (.int .u8 (n8 x % 16))).run Tryz.prog W= .ok (.int .u8 (n8 (Dg.hx (x.toNat % 16)))) W:=fun W=> by
    have h:=qje (x.toNat % 16) (by omega) W
    rw [Int.natCast_emod]at h
    exact h
   have q0:=qec x
   have q1:=n8_lt x
   have HST:=Qh hst
   clear hst hx hxl;generalize hv1:n8 (Dg.hx (x.toNat / 16))=v1 at*;generalize hv2:n8 (Dg.hx (x.toNat % 16))=v2 at*;have HV1:=Qh hv1
   have HV2:=Qh hv2
   clear hv1 hv2;obtain ⟨c1,hc1⟩:∃u,wr.cell? ⟨w.heap.size+1,2*k,none⟩=some u:=⟨_,hs.out.row.cell (List.getElem?_eq_getElem (by rw [List.length_map,qjd d k HD.out hk];omega))⟩
   obtain ⟨c2,hc2⟩:∃u,wr.cell? ⟨w.heap.size+1,2*k+1,none⟩=some u:=⟨_,hs.out.row.cell (List.getElem?_eq_getElem (by rw [List.length_map,qjd d k HD.out hk];omega))⟩
   have f1:=hs.out.row.frozen (2*k)
   have f2:=hs.out.row.frozen (2*k+1)
   go_wp2_with fail;go_roundw
   case rel=>
    refine ⟨k+1,by omega,by go_num, ?_,(hs.out.below.setCell (by simp) _).setCell (by simp) _⟩
    rw [←HST.out,←HV1.out,←HV2.out];have h:=(hs.out.row.set (2*k) (v8 (Dg.hx (x.toNat / 16)))).set (2*k+1) (v8 (Dg.hx (x.toNat % 16)))
    rwa [←List.map_set,←List.map_set]at h
   case measure=> simp [intOf] <;> omega
  ·have hge:(32:Int)≤(k:Int):=by omega
   have hk32:k=32:=by omega
   have hr:Row wr (w.heap.size+1) 168 ((Dg.pairs d).map v8):=by
    have h:=hs.out.row
    rwa [hk32,qzh d HD.out]at h
   have hc:∀W,Below wr.heap.size wr W→(convert 22 9 (.slice (some ⟨w.heap.size+1,0,none⟩) 64 64)).run Tryz.prog W= .ok (.string ⟨(Dg.pairs d).toArray⟩) W:=fun W hW=>
    qre W _ _ _ (fun j v hj=> by
     have h:=(hr.below hW hr.lt).cell (i:=0+j) (by rwa [Nat.zero_add])
     rwa [Addr.add_mid]) _ (by rw [Dg.qby,HD.out])
   have hc0:=hc wr (Below.refl _ _)
   have hpl:¬9223372036854775807 < 7+(Dg.pairs d).length:=by rw [Dg.qby,HD.out];omega
   have hfin:(⟨#[115,104,97,50,53,54,58]⟩++⟨(Dg.pairs d).toArray⟩:ByteArray)=⟨(Dg.text d).toArray⟩:=by
    apply ByteArray.ext
    simp [Dg.text,Dg.pre]
   clear hc hr hk32;have HF:=Qh hfin
   clear hfin;go_wp2_with fail;go_ret;exact ⟨by rw [←HF.out];rfl,hs.out.below⟩
def Dg.orZero (o:Option (List UInt8)):List UInt8:=o.getD (List.replicate 32 0)
theorem Dg.orZero_length (s:List UInt8):(Dg.orZero (Dg.parse s)).length=32:=by
 unfold Dg.orZero
 cases h:Dg.parse s with
 | none=> rfl
 | some d=> exact (Dg.qlf h).2
theorem qfx (t:List UInt8) (k:Nat) (hk:k < t.length) (W:World):(Instr.index 9 (.string ⟨t.toArray⟩) (.int .i64 (k:Int))).run Tryz.prog W= .ok (.int .u8 (n8 (t.getD k 0))) W:=by
 have e:(⟨t.toArray⟩:ByteArray)[k]? =some (t.getD k 0):=by
  rw [getElem?_pos _ k (show k < t.toArray.size by simpa using hk)];simp [ByteArray.getElem_eq_getElem_data,List.getD,hk]
 simp [Instr.index,run_underlying Tryz.underlying9,asIntOf,Result.andThen,Sem.run_pure,e,n8]
structure ParseAt (w wr:World) (t p:List UInt8) (k:Nat):Prop where
 res:Row wr w.heap.size 52 (List.replicate 32 (v8 0))
 row:Row wr (w.heap.size+1) 52 ((p++List.replicate (32 - k) 0).map v8)
 len:p.length=k
 below:Below w.heap.size w wr
 un:Dg.unpair t=(Dg.unpair (t.drop (2*k))).map (p++·)
theorem qpa (t:List UInt8) (k:Nat) (ht:t.length=64) (hk:k < 32):t.drop (2*k)=t.getD (2*k) 0::t.getD (2*k+1) 0::t.drop (2*(k+1)):=by
 rw [List.drop_eq_getElem_cons (by omega),List.drop_eq_getElem_cons (by omega),show 2*k+1+1=2*(k+1)by omega]
 simp [List.getD,ht,show 2*k < 64 by omega,show 2*k+1 < 64 by omega]
theorem qvt {w wr:World} {t p:List UInt8} {k:Nat} (h:ParseAt w wr t p k) (ht:t.length=64) (hk:k < 32) (hv:Dg.val (t.getD (2*k) 0) < 0∨Dg.val (t.getD (2*k+1) 0) < 0):Dg.unpair t=none:=by
 rw [h.un,qpa t k ht hk,Dg.unpair,if_pos hv];rfl
theorem qsh {w wr:World} {t p:List UInt8} {k:Nat} (h:ParseAt w wr t p k) (ht:t.length=64) (hk:k < 32) (hv:¬(Dg.val (t.getD (2*k) 0) < 0∨Dg.val (t.getD (2*k+1) 0) < 0)):
  Dg.unpair t=(Dg.unpair (t.drop (2*(k+1)))).map ((p++[Dg.byteOf (t.getD (2*k) 0) (t.getD (2*k+1) 0)])++·):=by
 rw [h.un,qpa t k ht hk,Dg.unpair,if_neg hv,Option.map_map]
 congr 1
 funext l
 simp
theorem ParseAt.set {p:List UInt8} {k:Nat} (h:p.length=k) (hk:k < 32) (x:UInt8):((p++List.replicate (32 - k) 0).map v8).set k (v8 x)=((p++[x])++List.replicate (32 - (k+1)) 0).map v8:=by
 rw [←List.map_set,List.set_append_right _ _ (by omega),h,Nat.sub_self,show 32 - k=(32 - (k+1))+1 by omega,List.replicate_succ,List.set_cons_zero]
 simp
theorem q1u (s:List UInt8) (W:World):Calls Tryz.prog 137 #[.string ⟨s.toArray⟩, .string ⟨#[115,104,97,50,53,54,58]⟩] W fun e w'=> e= .returned (.tuple #[.string ⟨(Lib.trimPrefix s Dg.pre).toArray⟩, .bool (Lib.hasPrefix s Dg.pre)])∧w'=W:=
 Tryz.strings_CutPrefix ⟨s.toArray⟩ ⟨#[115,104,97,50,53,54,58]⟩ W
theorem qss (x:UInt8) (W:World):Calls Tryz.prog 138 #[.string ⟨#[48,49,50,51,52,53,54,55,56,57,97,98,99,100,101,102]⟩, .int .u8 (n8 x)] W fun e w'=> e= .returned (.int .i64 (Dg.val x))∧w'=W:=by
 have h:=Tryz.strings_IndexByte ⟨#[48,49,50,51,52,53,54,55,56,57,97,98,99,100,101,102]⟩ (n8 x) W
 have e:(n8 x).toNat.toUInt8=x:=by rw [n8,Int.toNat_natCast,Nat.toUInt8,UInt8.ofNat_toNat]
 rw [e]at h
 exact h
theorem ql3:∀a,a < 16→∀b,b < 16→bits .or .i64 ((a:Nat)*16:Int) (b:Nat) % 256=((16*a+b:Nat):Int):=by decide+kernel
theorem qts (a b:Int) (a0:0≤a) (a1:a < 16) (b0:0≤b) (b1:b < 16) (z:UInt8) (hz:z=UInt8.ofNat (16*a.toNat+b.toNat)):Value.int .u8 (bits .or .i64 (a*16) b % 256)=v8 z:=by
 obtain ⟨n,rfl⟩:=Int.eq_ofNat_of_zero_le a0
 obtain ⟨m,rfl⟩:=Int.eq_ofNat_of_zero_le b0
 have h:=ql3 n (by omega) m (by omega)
 rw [h,hz,v8,n8,UInt8.toNat_ofNat',Int.toNat_natCast,Int.toNat_natCast,Nat.mod_eq_of_lt (by omega)]
theorem qer:Tryz.prog.built 52 []=some (List.replicate 32 (v8 0)).toArray:=by kernel_rfl
theorem zero32:(Dg.orZero none).map v8=List.replicate 32 (v8 0):=rfl
theorem qwd (s:List UInt8) (w:World):
  Calls Tryz.prog 96 #[.string ⟨s.toArray⟩] w fun e w'=> e= .returned (.tuple #[.agg ((Dg.orZero (Dg.parse s)).map v8).toArray, .bool (Dg.parse s).isSome])∧Below w.heap.size w w':=by
 have hcut:=q1u s
 have hps:Dg.parse s=if Lib.hasPrefix s Dg.pre=true∧(Lib.trimPrefix s Dg.pre).length=64 then Dg.unpair (Lib.trimPrefix s Dg.pre) else none:=rfl
 have hle:=Lib.trimPrefix_le s Dg.pre
 generalize hT:Lib.trimPrefix s Dg.pre=T at*
 generalize hP:Dg.parse s=P at*
 have HP:=Qh hps
 have HC:=Qh hcut
 clear hps hcut hT hP
 have hz32:=zero32
 by_cases hpre:Lib.hasPrefix s Dg.pre=true
 ·by_cases hl:T.length=64
  ·have hPP:P=Dg.unpair T:=by rw [HP.out,if_pos ⟨hpre,hl⟩]
   have hl':((T.length:Int) !=64)=false:=by rw [bne_eq_false_iff_eq];omega
   have HL:=Qh hl
   have HPP:=Qh hPP
   clear hl hPP;have hb:=qer
   have hZl:(List.replicate 32 (v8 0)).length=32:=rfl
   have hZ1:=qbl v8 (fun _=> rfl) (List.replicate 32 0)
   rw [List.map_replicate]at hZ1
   clear hz32;generalize hZ:List.replicate 32 (v8 0)=Z at*;have HZ:=Qh hZ
   have HB:=Qh hb
   have HZL:=Qh hZl
   have HZ1:=Qh hZ1
   clear hZ hb hZl hZ1;go_enter Tryz.func96,Tryz.ntmps96
   go_wp2_with (first
    | (go_at_call 137;go_must (refine (HC.out _).mono ?_;rintro e w2 ⟨rfl,rfl⟩)))
   have h0:ParseAt w ((w.alloc (.cells (List.replicate 32 (v8 0)).toArray 52)).alloc (.cells (List.replicate 32 (v8 0)).toArray 52)) T [] 0:=
    ⟨(Row.at_ _ _ _ rfl rfl).alloc _,Row.at_ _ _ _ rfl (by simp),rfl,((Below.refl _ _).alloc (Nat.le_refl _) _).alloc (by simp) _,by cases h:Dg.unpair T <;> simp [h]⟩
   have H0:=Qh h0
   clear h0;go_loopw [23] (fun i wr=> ∃(k:Nat) (p:List UInt8),k≤32∧i= .int .i64 k∧Hid (ParseAt w wr T p k)) (fun i _=> 32 - (intOf i).toNat)
   case atStart=> exact ⟨0,[],Nat.zero_le _,rfl,H0⟩
   case round=>
    obtain ⟨k,p,hk,rfl,hs⟩:=hrel
    by_cases hlt:k < 32
    ·have l0:0≤(k:Int)∧(k:Int) < 32:=by omega
     have hi1:∀W,(Instr.index 9 (.string ⟨T.toArray⟩) (.int .i64 (2*(k:Int)))).run Tryz.prog W= .ok (.int .u8 (n8 (T.getD (2*k) 0))) W:=fun W=> by
      have h:=qfx T (2*k) (by rw [HL.out];omega) W
      rwa [Int.natCast_mul]at h
     have hi2:∀W,(Instr.index 9 (.string ⟨T.toArray⟩) (.int .i64 (2*(k:Int)+1))).run Tryz.prog W= .ok (.int .u8 (n8 (T.getD (2*k+1) 0))) W:=fun W=> by
      have h:=qfx T (2*k+1) (by rw [HL.out];omega) W
      rwa [Int.natCast_add,Int.natCast_mul]at h
     have hbad:=qvt hs.out HL.out hlt
     have hgood:=qsh hs.out HL.out hlt
     generalize hx:T.getD (2*k) 0=x at*;generalize hy:T.getD (2*k+1) 0=y at*;have hcx:=qss x
     have hcy:=qss y
     have hbo:Dg.byteOf x y=UInt8.ofNat (16*(Dg.val x).toNat+(Dg.val y).toNat):=rfl
     have rx:=Dg.qdf x
     have ry:=Dg.qdf y
     generalize hvx:Dg.val x=vx at*;generalize hvy:Dg.val y=vy at*;have HBAD:=Qh hbad
     have HGOOD:=Qh hgood
     have HBO:=Qh hbo
     have HCX:=Qh hcx
     have HCY:=Qh hcy
     clear hx hy hbad hgood hvx hvy hcx hcy hbo;obtain ⟨rx0,rx1⟩:=rx
     obtain ⟨ry0,ry1⟩:=ry
     go_wp2_with fail;refine (HCX.out _).mono ?_
     rintro e w3 ⟨rfl,rfl⟩;go_wp2_with fail;refine (HCY.out _).mono ?_
     rintro e w4 ⟨rfl,rfl⟩;by_cases hbd:vx < 0∨vy < 0
     ·have hPn:P=none:=by rw [HPP.out,HBAD.out hbd]
      subst hPn;have HZE:Hid ((Dg.orZero none).map v8=Z):=zero32.trans HZ.out
      have hz:Row w4 w.heap.size 52 (List.replicate 32 (v8 0)):=hs.out.res
      rw [HZ.out]at hz
      have HZR:=Qh hz
      clear hz;have hbdB:(decide (vx < 0) || decide (vy < 0))=true:=by simpa using hbd
      go_wp2_with (first
       | ((with_reducible refine wpList_build_is ?_ 52 #[] ?_ Z.toArray ?_ ?_);rfl;rfl;go_must (refine Eq.trans ?_ HB.out;kernel_rfl))
       | ((with_reducible refine wpList_store_row ?_ 52 (.tmp 2) (.tmp 43) ?_ w.heap.size Z.toArray ?_ ?_ 52 Z.toArray ?_ ?_ ?_ HZ1.out ?_);rfl;rfl;go_must (rfl;(first | rfl | (rw [←HZ.out];rfl));exact HZR.out;(rw [List.size_toArray,HZL.out];kernel_rfl);rfl)))
      all_goals exact bodyPost_ret (v:= .tuple #[.agg Z.toArray, .bool false]) (qae (fn:=Tryz.f96) (p:=2) (u:=3) rfl _ _ w.heap.size _ Z.toArray _ _ rfl (setRow_heap _ w.heap.size _ _ _ _ HZR.out) Tryz.underlying52 rfl (by rw [List.size_toArray,HZL.out];kernel_rfl)) rfl ⟨by first | (rw [HZE.out];rfl) | rw [HZE.out],below_setRow hs.out.below (Nat.le_refl _) _⟩
     ·have hu:Dg.byteOf x y=UInt8.ofNat (16*vx.toNat+vy.toNat):=HBO.out
      have g1:¬vx < 0:=fun h=> hbd (.inl h)
      have g2:¬vy < 0:=fun h=> hbd (.inr h)
      obtain ⟨u,hc1⟩:∃u,w4.cell? ⟨w.heap.size+1,k,none⟩=some u:=⟨_,hs.out.row.cell (List.getElem?_eq_getElem (by rw [List.length_map,List.length_append,List.length_replicate,hs.out.len];omega))⟩
      have f1:=hs.out.row.frozen k
      have HU:=Qh hu
      have HBD:=Qh hbd
      clear hu hbd;go_wp2_with fail;have hv:Value.int .u8 (bits .or .i64 (vx*16) vy % 256)=v8 (Dg.byteOf x y):=qts vx vy (by omega) rx1 (by omega) ry1 _ HU.out
      go_roundw
      case rel=>
       refine ⟨k+1,p++[Dg.byteOf x y],by omega,by go_num,hs.out.res.other (by simp) _, ?_,by rw [List.length_append,hs.out.len];rfl,hs.out.below.setCell (by simp) _,HGOOD.out HBD.out⟩
       rw [hv,←ParseAt.set hs.out.len hlt];exact hs.out.row.set k _
      case measure=> simp [intOf] <;> omega
    ·have hge:(32:Int)≤(k:Int):=by omega
     have hk32:k=32:=by omega
     have hw:Row wr (w.heap.size+1) 52 (p.map v8):=by have h:=hs.out.row;rwa [hk32,show 32 - 32=0 from rfl,List.replicate_zero,List.append_nil]at h
     have hz:Row wr w.heap.size 52 (List.replicate 32 (v8 0)):=hs.out.res
     have hPp:P=some p:=by
      rw [HPP.out,hs.out.un,hk32,List.drop_of_length_le (by rw [HL.out];omega)]
      simp [Dg.unpair]
     subst hPp;have hl:(p.map v8).length=32:=by rw [List.length_map,hs.out.len];omega
     have h1:=qbl v8 (fun _=> rfl) p
     have ho:(Dg.orZero (some p)).map v8=p.map v8:=rfl
     generalize hDD:p.map v8=D at*;have HO:=Qh ho
     clear ho;unfold Row at hw hz;have HW:=Qh hw
     have HZR:=Qh hz
     have HDL:=Qh hl
     have H1:=Qh h1
     clear hw hz hl h1 hk32 hDD;go_wp2_with (first
      | ((with_reducible refine wpList_load_row ?_ 52 (.tmp 6) ?_ (w.heap.size+1) ?_ 52 D.toArray (0,0) (.array 32 5) ?_ ?_ ?_ ?_ ?_);rfl;rfl;go_must (rfl;exact HW.out;exact Tryz.underlying52;rfl;(simp only [List.size_toArray,HDL.out];kernel_rfl)))
      | ((with_reducible refine wpList_store_row ?_ 52 (.tmp 2) (.tmp 52) ?_ w.heap.size D.toArray ?_ ?_ 52 (List.replicate 32 (v8 0)).toArray ?_ ?_ ?_ ?_ ?_);rfl;rfl;go_must (rfl;(first | rfl | (rw [←HZ.out];rfl));exact HZR.out;(simp only [List.size_toArray,HDL.out];kernel_rfl);(simp only [List.size_toArray,List.length_replicate,HDL.out]);exact H1.out)))
     exact bodyPost_ret (v:= .tuple #[.agg D.toArray, .bool true]) (qae (fn:=Tryz.f96) (p:=2) (u:=3) rfl _ _ w.heap.size _ D.toArray _ _ rfl (setRow_heap _ w.heap.size _ _ _ _ HZR.out) Tryz.underlying52 rfl (by rw [List.size_toArray,HDL.out];kernel_rfl)) rfl ⟨by rw [HO.out];rfl,below_setRow hs.out.below (Nat.le_refl _) _⟩
  ·have hPn:P=none:=by rw [HP.out,if_neg (fun h=> hl h.2)]
   subst hPn;rw [hz32];have hl':((T.length:Int) !=64)=true:=by rw [bne_iff_ne];omega
   have HL:=Qh hl
   clear hl;have hb:=qer
   have hZl:(List.replicate 32 (v8 0)).length=32:=rfl
   have hZ1:=qbl v8 (fun _=> rfl) (List.replicate 32 0)
   rw [List.map_replicate]at hZ1
   clear hz32;generalize hZ:List.replicate 32 (v8 0)=Z at*;have HZ:=Qh hZ
   have HB:=Qh hb
   have HZL:=Qh hZl
   have HZ1:=Qh hZ1
   clear hZ hb hZl hZ1;go_enter Tryz.func96,Tryz.ntmps96
   go_wp2_with (first
    | (go_at_call 137;go_must (refine (HC.out _).mono ?_;rintro e w2 ⟨rfl,rfl⟩))
    | ((with_reducible refine wpList_build_is ?_ 52 #[] ?_ Z.toArray ?_ ?_);rfl;rfl;go_must (refine Eq.trans ?_ HB.out;kernel_rfl))
    | ((with_reducible refine wpList_store_row ?_ 52 (.tmp 2) (.tmp 22) ?_ w.heap.size Z.toArray ?_ ?_ 52 Z.toArray ?_ ?_ ?_ HZ1.out ?_);rfl;rfl;go_must (rfl;(first | rfl | (rw [←HZ.out];rfl));(rw [←HZ.out];exact Row.at_ _ _ _ rfl rfl);(rw [List.size_toArray,HZL.out];kernel_rfl);rfl)))
   have hr:Row (w.alloc (.cells (List.replicate 32 (v8 0)).toArray 52)) w.heap.size 52 (List.replicate 32 (v8 0)):=Row.at_ _ _ _ rfl rfl
   exact bodyPost_ret (v:= .tuple #[.agg Z.toArray, .bool false]) (qae (fn:=Tryz.f96) (p:=2) (u:=3) rfl _ _ w.heap.size _ Z.toArray _ _ rfl (setRow_heap _ w.heap.size _ _ _ _ hr) Tryz.underlying52 rfl (by rw [List.size_toArray,HZL.out];kernel_rfl)) rfl ⟨rfl,below_setRow ((Below.refl _ _).alloc (Nat.le_refl _) _) (Nat.le_refl _) _⟩
 ·have hPn:P=none:=by rw [HP.out,if_neg (fun h=> hpre h.1)]
  subst hPn;rw [hz32];have hpre':Lib.hasPrefix s Dg.pre=false:=by simpa using hpre
  clear hpre;have hb:=qer
  have hZl:(List.replicate 32 (v8 0)).length=32:=rfl
  have hZ1:=qbl v8 (fun _=> rfl) (List.replicate 32 0)
  rw [List.map_replicate]at hZ1
  clear hz32;generalize hZ:List.replicate 32 (v8 0)=Z at*;have HZ:=Qh hZ
  have HB:=Qh hb
  have HZL:=Qh hZl
  have HZ1:=Qh hZ1
  clear hZ hb hZl hZ1;go_enter Tryz.func96,Tryz.ntmps96
  go_wp2_with (first
   | (go_at_call 137;go_must (refine (HC.out _).mono ?_;rintro e w2 ⟨rfl,rfl⟩))
   | ((with_reducible refine wpList_build_is ?_ 52 #[] ?_ Z.toArray ?_ ?_);rfl;rfl;go_must (refine Eq.trans ?_ HB.out;kernel_rfl))
   | ((with_reducible refine wpList_store_row ?_ 52 (.tmp 2) (.tmp 22) ?_ w.heap.size Z.toArray ?_ ?_ 52 Z.toArray ?_ ?_ ?_ HZ1.out ?_);rfl;rfl;go_must (rfl;(first | rfl | (rw [←HZ.out];rfl));(rw [←HZ.out];exact Row.at_ _ _ _ rfl rfl);(rw [List.size_toArray,HZL.out];kernel_rfl);rfl)))
  have hr:Row (w.alloc (.cells (List.replicate 32 (v8 0)).toArray 52)) w.heap.size 52 (List.replicate 32 (v8 0)):=Row.at_ _ _ _ rfl rfl
  exact bodyPost_ret (v:= .tuple #[.agg Z.toArray, .bool false]) (qae (fn:=Tryz.f96) (p:=2) (u:=3) rfl _ _ w.heap.size _ Z.toArray _ _ rfl (setRow_heap _ w.heap.size _ _ _ _ hr) Tryz.underlying52 rfl (by rw [List.size_toArray,HZL.out];kernel_rfl)) rfl ⟨rfl,below_setRow ((Below.refl _ _).alloc (Nat.le_refl _) _) (Nat.le_refl _) _⟩
end Go.Proofs.YtgmangikcfakgaaGreatDoor
