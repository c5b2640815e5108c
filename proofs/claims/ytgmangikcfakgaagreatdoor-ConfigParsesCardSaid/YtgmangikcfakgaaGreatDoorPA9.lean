import Derived.Test.YtgmangikcfakgaaGreatDoorPA8
import Derived.Test.YtgmangikcfakgaaGreatDoorPA1
import Derived.Deep.CutBlock
import Derived.Deep.LoopGhost
import Derived.Lib.AtoiErrMem
import Derived.BigCall
import Derived.BigGuard
set_option maxRecDepth 100000
set_option maxHeartbeats 40000000
namespace Go.Proofs
open Go.Shelf
def Tryz.lays166_ren:Go.Shelf.Ren:=⟨fun | 166=> 145 | 240=> 91 | 276=> 125 | n=> n,fun | 0=> 0 | 3=> 3 | 4=> 4 | 5=> 5 | 9=> 9 | 20=> 20 | 37=> 22 | 70=> 76 | 72=> 78 | 75=> 80 | 80=> 83 | 164=> 142 | n=> n,fun | n=> n⟩
theorem Tryz.lays166:Go.Proofs.Lays.n166 Tryz.prog Tryz.lays166_ren:= {
 mixed:=by kernel_rfl
 f166:=Tryz.func145.trans (congrArg some (by kernel_rfl))
 f240:=Tryz.func91.trans (congrArg some (by kernel_rfl))
 f276:=Tryz.func125.trans (congrArg some (by kernel_rfl))
 t0:=Tryz.underlying0
 a0:=Tryz.isAgg0
 z0:=Tryz.sizeOf0
 v0:=Tryz.zeroValue0
 t3:=Tryz.underlying3
 a3:=Tryz.isAgg3
 z3:=Tryz.sizeOf3
 v3:=Tryz.zeroValue3
 t4:=Tryz.underlying4
 a4:=Tryz.isAgg4
 z4:=Tryz.sizeOf4
 v4:=Tryz.zeroValue4
 t9:=Tryz.underlying9
 a9:=Tryz.isAgg9
 z9:=Tryz.sizeOf9
 v9:=Tryz.zeroValue9
 t20:=Tryz.underlying20
 a20:=Tryz.isAgg20
 z20:=Tryz.sizeOf20
 v20:=Tryz.zeroValue20
 t37:=Tryz.underlying22
 a37:=Tryz.isAgg22
 z37:=Tryz.sizeOf22
 v37:=Tryz.zeroValue22
 t70:=Tryz.underlying76
 a70:=Tryz.isAgg76
 z70:=Tryz.sizeOf76
 v70:=Tryz.zeroValue76
 t72:=Tryz.underlying78
 a72:=Tryz.isAgg78
 z72:=Tryz.sizeOf78
 v72:=Tryz.zeroValue78
 t75:=Tryz.underlying80
 a75:=Tryz.isAgg80
 z75:=Tryz.sizeOf80
 v75:=Tryz.zeroValue80
 t164:=Tryz.underlying142
 a164:=Tryz.isAgg142
 z164:=Tryz.sizeOf142
 v164:=Tryz.zeroValue142}
theorem Tryz.Builder_Extra_166:Builder.Extra Tryz.prog Tryz.lays166_ren:= {
 sizeBuilder:=by kernel_rfl
 liesBuilder:=by kernel_rfl
 t5:=Tryz.underlying5
 a5:=Tryz.isAgg5
 z5:=Tryz.sizeOf5
 v5:=Tryz.zeroValue5
 infoByte:=by kernel_rfl
 cellsByte:=by kernel_rfl
 sizeByte:=by kernel_rfl
 neB5:=by decide}
def Tryz.lays167_ren:Go.Shelf.Ren:=⟨fun | 167=> 143 | 240=> 91 | 276=> 125 | n=> n,fun | 0=> 0 | 4=> 4 | 5=> 5 | 9=> 9 | 20=> 20 | 37=> 22 | 70=> 76 | 72=> 78 | 75=> 80 | 80=> 83 | 164=> 142 | n=> n,fun | n=> n⟩
theorem Tryz.lays167:Go.Proofs.Lays.n167 Tryz.prog Tryz.lays167_ren:= {
 mixed:=by kernel_rfl
 f167:=Tryz.func143.trans (congrArg some (by kernel_rfl))
 f240:=Tryz.func91.trans (congrArg some (by kernel_rfl))
 f276:=Tryz.func125.trans (congrArg some (by kernel_rfl))
 t0:=Tryz.underlying0
 a0:=Tryz.isAgg0
 z0:=Tryz.sizeOf0
 v0:=Tryz.zeroValue0
 t4:=Tryz.underlying4
 a4:=Tryz.isAgg4
 z4:=Tryz.sizeOf4
 v4:=Tryz.zeroValue4
 t5:=Tryz.underlying5
 a5:=Tryz.isAgg5
 z5:=Tryz.sizeOf5
 v5:=Tryz.zeroValue5
 t9:=Tryz.underlying9
 a9:=Tryz.isAgg9
 z9:=Tryz.sizeOf9
 v9:=Tryz.zeroValue9
 t20:=Tryz.underlying20
 a20:=Tryz.isAgg20
 z20:=Tryz.sizeOf20
 v20:=Tryz.zeroValue20
 t37:=Tryz.underlying22
 a37:=Tryz.isAgg22
 z37:=Tryz.sizeOf22
 v37:=Tryz.zeroValue22
 t70:=Tryz.underlying76
 a70:=Tryz.isAgg76
 z70:=Tryz.sizeOf76
 v70:=Tryz.zeroValue76
 t72:=Tryz.underlying78
 a72:=Tryz.isAgg78
 z72:=Tryz.sizeOf78
 v72:=Tryz.zeroValue78
 t75:=Tryz.underlying80
 a75:=Tryz.isAgg80
 z75:=Tryz.sizeOf80
 v75:=Tryz.zeroValue80
 t164:=Tryz.underlying142
 a164:=Tryz.isAgg142
 z164:=Tryz.sizeOf142
 v164:=Tryz.zeroValue142}
theorem Tryz.Builder_Extra_167:Builder.Extra Tryz.prog Tryz.lays167_ren:= {
 sizeBuilder:=by kernel_rfl
 liesBuilder:=by kernel_rfl
 t5:=Tryz.underlying5
 a5:=Tryz.isAgg5
 z5:=Tryz.sizeOf5
 v5:=Tryz.zeroValue5
 infoByte:=by kernel_rfl
 cellsByte:=by kernel_rfl
 sizeByte:=by kernel_rfl
 neB5:=by decide}
def Tryz.lays168_ren:Go.Shelf.Ren:=⟨fun | 168=> 57 | 240=> 91 | 242=> 92 | 276=> 125 | 278=> 126 | n=> n,fun | 0=> 0 | 3=> 3 | 4=> 4 | 5=> 5 | 9=> 9 | 20=> 20 | 21=> 21 | 37=> 22 | 46=> 141 | 51=> 144 | 70=> 76 | 72=> 78 | 75=> 80 | 80=> 83 | 164=> 142 | n=> n,fun | n=> n⟩
theorem Tryz.lays168:Go.Proofs.Lays.n168 Tryz.prog Tryz.lays168_ren:= {
 mixed:=by kernel_rfl
 f168:=Tryz.func57.trans (congrArg some (by kernel_rfl))
 f240:=Tryz.func91.trans (congrArg some (by kernel_rfl))
 f242:=Tryz.func92.trans (congrArg some (by kernel_rfl))
 f276:=Tryz.func125.trans (congrArg some (by kernel_rfl))
 f278:=Tryz.func126.trans (congrArg some (by kernel_rfl))
 t0:=Tryz.underlying0
 a0:=Tryz.isAgg0
 z0:=Tryz.sizeOf0
 v0:=Tryz.zeroValue0
 t3:=Tryz.underlying3
 a3:=Tryz.isAgg3
 z3:=Tryz.sizeOf3
 v3:=Tryz.zeroValue3
 t4:=Tryz.underlying4
 a4:=Tryz.isAgg4
 z4:=Tryz.sizeOf4
 v4:=Tryz.zeroValue4
 t5:=Tryz.underlying5
 a5:=Tryz.isAgg5
 z5:=Tryz.sizeOf5
 v5:=Tryz.zeroValue5
 t9:=Tryz.underlying9
 a9:=Tryz.isAgg9
 z9:=Tryz.sizeOf9
 v9:=Tryz.zeroValue9
 t20:=Tryz.underlying20
 a20:=Tryz.isAgg20
 z20:=Tryz.sizeOf20
 v20:=Tryz.zeroValue20
 t21:=Tryz.underlying21
 a21:=Tryz.isAgg21
 z21:=Tryz.sizeOf21
 v21:=Tryz.zeroValue21
 t37:=Tryz.underlying22
 a37:=Tryz.isAgg22
 z37:=Tryz.sizeOf22
 v37:=Tryz.zeroValue22
 t46:=Tryz.underlying141
 a46:=Tryz.isAgg141
 z46:=Tryz.sizeOf141
 v46:=Tryz.zeroValue141
 t51:=Tryz.underlying144
 a51:=Tryz.isAgg144
 z51:=Tryz.sizeOf144
 v51:=Tryz.zeroValue144
 t70:=Tryz.underlying76
 a70:=Tryz.isAgg76
 z70:=Tryz.sizeOf76
 v70:=Tryz.zeroValue76
 t72:=Tryz.underlying78
 a72:=Tryz.isAgg78
 z72:=Tryz.sizeOf78
 v72:=Tryz.zeroValue78
 t75:=Tryz.underlying80
 a75:=Tryz.isAgg80
 z75:=Tryz.sizeOf80
 v75:=Tryz.zeroValue80
 t164:=Tryz.underlying142
 a164:=Tryz.isAgg142
 z164:=Tryz.sizeOf142
 v164:=Tryz.zeroValue142}
theorem Tryz.Builder_Extra_168:Builder.Extra Tryz.prog Tryz.lays168_ren:= {
 sizeBuilder:=by kernel_rfl
 liesBuilder:=by kernel_rfl
 t5:=Tryz.underlying5
 a5:=Tryz.isAgg5
 z5:=Tryz.sizeOf5
 v5:=Tryz.zeroValue5
 infoByte:=by kernel_rfl
 cellsByte:=by kernel_rfl
 sizeByte:=by kernel_rfl
 neB5:=by decide}
open Go.RowKit in
theorem Tryz.Builder_WriteByte_k (B b:Nat) (bs:List Value) (c:Int) (w:World) (h:Lib.IsBuilderF 78 5 B b bs w) (hlen:bs.length+1≤140737488355328) (hBw:B≤w.heap.size):
  Calls Tryz.prog 143 #[.pointer (some ⟨b,0,none⟩), .int .u8 c] w fun e w'=> e= .returned .nilIface∧(Lib.BuilderAtF 78 5 B b (.pointer (some ⟨b,0,none⟩)) (bs++[.int .u8 c]) w'∧Below B w w'∧Lib.OthersKept 5 (some b) w w'):=Any.Builder_WriteByte_k Tryz.lays167 Tryz.Builder_Extra_167 B b bs c w h hlen hBw
open Go.RowKit in
theorem Tryz.Builder_WriteString_k (B b:Nat) (bs:List Value) (s:ByteArray) (w:World) (h:Lib.IsBuilderF 78 5 B b bs w) (hlen:bs.length+s.size≤140737488355328) (hBw:B≤w.heap.size):
  Calls Tryz.prog 145 #[.pointer (some ⟨b,0,none⟩), .string s] w fun e w'=> e= .returned (.tuple #[.int .i64 s.size, .nilIface])∧(Lib.BuilderAtF 78 5 B b (.pointer (some ⟨b,0,none⟩)) (bs++Lib.strCells s) w'∧Below B w w'∧Lib.OthersKept 5 (some b) w w'):=Any.Builder_WriteString_k Tryz.lays166 Tryz.Builder_Extra_166 B b bs s w h hlen hBw
open Go.RowKit in
theorem Tryz.Builder_WriteRune_k (B b:Nat) (bs:List Value) (r:Int) (hr0: -2147483648≤r) (hr1:r≤2147483647) (w:World) (h:Lib.IsBuilderF 78 5 B b bs w) (hlen:bs.length+4≤140737488355328) (hBw:B≤w.heap.size):
  Calls Tryz.prog 57 #[.pointer (some ⟨b,0,none⟩), .int .i32 r] w fun e w'=> e= .returned (.tuple #[.int .i64 (Lib.runeCells r).length, .nilIface])∧(Lib.BuilderAtF 78 5 B b (.pointer (some ⟨b,0,none⟩)) (bs++Lib.runeCells r) w'∧Below B w w'∧Lib.OthersKept 5 (some b) w w'):=Any.Builder_WriteRune_k Tryz.lays168 Tryz.Builder_Extra_168 B b bs r hr0 hr1 w h hlen hBw
end Go.Proofs
namespace Go.Proofs.YtgmangikcfakgaaGreatDoor
open Go.RowKit Sh
namespace Jt
def sb (l:List UInt8):ByteArray:=⟨l.toArray⟩
theorem qiy (l:List UInt8):(sb l).data.toList=l:=rfl
theorem qag (l:List UInt8):(sb l).size=l.length:=rfl
theorem qab (l:List UInt8):(sb l).toList=l:=ByteArray.toList_eq _
theorem qom (a b:List UInt8):sb a++sb b=sb (a++b):=by
 apply ByteArray.ext
 simp [sb]
theorem qcj (l:List UInt8) (a b:Nat):(sb l).extract a b=sb ((l.take b).drop a):=by
 apply ByteArray.ext
 rw [ByteArray.data_extract]
 simp [sb,List.drop_take]
theorem qam (l:List UInt8) (j:Nat) (hj:j < l.length) (W:World):(Instr.index 9 (.string (sb l)) (.int .i64 (j:Int))).run Tryz.prog W= .ok (.int .u8 (n8 l[j])) W:=by
 have hs:(sb l)[j]? =some l[j]:=by
  rw [getElem?_pos (sb l) j (by exact hj)];rfl
 simp [Instr.index,run_underlying Tryz.underlying9,asIntOf,hs,n8]
theorem n8_is {x c:UInt8} (h:n8 x=n8 c):x=c:=UInt8.toNat_inj.1 (by unfold n8 at h;omega)
theorem n8_to (c:UInt8):(n8 c).toNat.toUInt8=c:=by
 rw [show (n8 c).toNat=c.toNat from Int.toNat_natCast _]
 exact UInt8.ofNat_toNat
theorem n8_of {n:Nat} (h:n < 256):n8 (UInt8.ofNat n)=(n:Int):=by
 unfold n8
 rw [toN n h]
theorem at_of (l:List UInt8) {i:Nat} (h:i < l.length):l.drop i=l[i]::l.drop (i+1):=List.drop_eq_getElem_cons h
theorem qho (l:List UInt8) {i:Nat} (h:i < l.length):Utf8.decode (sb l) i=orBad (charF (l[i]::l.drop (i+1))):=qnp (at_of l h)
theorem qo2 (s p:List UInt8) (w:World):Calls Tryz.prog 180 #[.string (sb s), .string (sb p)] w fun e w'=> e= .returned (.bool (p.isPrefixOf s))∧w'=w:=Tryz.strings_HasPrefix (sb s) (sb p) w
theorem q1t (s p:List UInt8) (w:World):Calls Tryz.prog 178 #[.string (sb s), .string (sb p)] w fun e w'=> e= .returned (.string (sb (if p.isPrefixOf s=true then s.drop p.length else s)))∧w'=w:=Tryz.strings_TrimPrefix (sb s) (sb p) w
theorem qlr (s p:List UInt8) (w:World):Calls Tryz.prog 137 #[.string (sb s), .string (sb p)] w fun e w'=> e= .returned (.tuple #[.string (sb (if p.isPrefixOf s=true then s.drop p.length else s)), .bool (p.isPrefixOf s)])∧w'=w:=Tryz.strings_CutPrefix (sb s) (sb p) w
theorem qkm (s:List UInt8) (c:UInt8) (w:World):Calls Tryz.prog 138 #[.string (sb s), .int .u8 (n8 c)] w fun e w'=> e= .returned (.int .i64 (Lib.indexByte s c))∧w'=w:=by
 have h:=Tryz.strings_IndexByte (sb s) (n8 c) w
 rw [n8_to,qiy]at h
 exact h
def Bld (b:Nat) (acc:List UInt8) (w:World):Prop:=Lib.IsBuilderF 78 5 b b (Lib.byteCells acc) w
theorem Bld.fresh (w:World):Bld w.heap.size [] (w.alloc (.cells #[.pointer none, .slice none 0 0] 78)):=Lib.IsBuilderF.of (Lib.fresh_isBuilder _ _ w)
theorem Bld.alloc {b:Nat} {acc:List UInt8} {w:World} (h:Bld b acc w) (o:Obj):Bld b acc (w.alloc o):=Lib.IsBuilderF.alloc h o
theorem Bld.iterAt {b:Nat} {acc:List UInt8} {w:World} (h:Bld b acc w) {k:Nat} {s:ByteArray} {pos:Nat} (hk:w.heap[k]? =some (.stringIter s pos)) (pos':Nat):Bld b acc (w.iterAt k s pos'):=Lib.IsBuilderF.iterAt h hk pos'
theorem Bld.below {b:Nat} {acc:List UInt8} {w w':World} (h:Bld b acc w) (hb:Below w.heap.size w w'):Bld b acc w':=by
 have key:∀p,Lib.BuilderAtF 78 5 b b p (Lib.byteCells acc) w→Lib.BuilderAtF 78 5 b b p (Lib.byteCells acc) w':=fun p hp=> by
  obtain ⟨hB,v,hh,hown,hne⟩:=hp
  refine ⟨hB,v,(hb.block b (Array.getElem?_eq_some_iff.1 hh).1).trans hh,⟨hown.1, ?_⟩,hne⟩
  rcases hown.2 with hn | ⟨g,cap,cur,fz,hv,hbg,hg,rest⟩
  ·exact .inl hn
  ·exact .inr ⟨g,cap,cur,fz,hv,hbg,(hb.block g (Array.getElem?_eq_some_iff.1 hg).1).trans hg,rest⟩
 exact h.elim (fun x=> .inl (key _ x)) (fun x=> .inr (key _ x))
theorem qtp {w w':World} {k:Nat} {o:Obj} (h:w.heap[k]? =some o) (hb:Below w.heap.size w w'):w'.heap[k]? =some o:=
 (hb.block k (Array.getElem?_eq_some_iff.1 h).1).trans h
structure Wrote (b:Nat) (acc:List UInt8) (w w':World):Prop where
 bld:Bld b acc w'
 below:Below b w w'
 kept:Lib.OthersKept 5 (some b) w w'
theorem qd3 {b:Nat} {acc:List UInt8} {w:World} (h:Bld b acc w) (hl:acc.length≤100000000000) (hb:b≤w.heap.size) (c:UInt8):
  Calls Tryz.prog 143 #[.pointer (some ⟨b,0,none⟩), .int .u8 (n8 c)] w fun e w'=> e= .returned .nilIface∧Wrote b (acc++[c]) w w':=by
 refine (Tryz.Builder_WriteByte_k b b _ (n8 c) w h (by rw [Lib.byteCells_length];omega) hb).mono ?_
 rintro e w' ⟨rfl,h1,h2,h3⟩
 refine ⟨rfl, ?_,h2,h3⟩
 unfold Bld
 rw [Lib.byteCells_append]
 exact .inr h1
theorem q13 {b:Nat} {acc:List UInt8} {w:World} (h:Bld b acc w) (hl:acc.length≤100000000000) (hb:b≤w.heap.size) (s:List UInt8) (hs:s.length≤100000000000):
  Calls Tryz.prog 145 #[.pointer (some ⟨b,0,none⟩), .string (sb s)] w fun e w'=> e= .returned (.tuple #[.int .i64 (s.length:Int), .nilIface])∧Wrote b (acc++s) w w':=by
 refine (Tryz.Builder_WriteString_k b b _ (sb s) w h (by rw [Lib.byteCells_length,qag];omega) hb).mono ?_
 rintro e w' ⟨rfl,h1,h2,h3⟩
 refine ⟨rfl, ?_,h2,h3⟩
 unfold Bld
 rw [Lib.byteCells_append]
 exact .inr h1
theorem qfn {b:Nat} {acc:List UInt8} {w:World} (h:Bld b acc w) (hl:acc.length≤100000000000) (hb:b≤w.heap.size) {n:Nat} (hn:scalar n=true):
  Calls Tryz.prog 57 #[.pointer (some ⟨b,0,none⟩), .int .i32 (n:Int)] w fun e w'=> (∃v,e= .returned v)∧Wrote b (acc++bytesF n) w w':=by
 have hs:=qal.1 hn
 refine (Tryz.Builder_WriteRune_k b b _ (n:Int) (by omega) (by omega) w h (by rw [Lib.byteCells_length];omega) hb).mono ?_
 rintro e w' ⟨rfl,h1,h2,h3⟩
 refine ⟨⟨_,rfl⟩, ?_,h2,h3⟩
 rw [←Lib.byteCells_encodeRune,q2w hn,←Lib.byteCells_append]at h1
 exact .inr h1
theorem qmd {b:Nat} {acc:List UInt8} {w:World} (h:Bld b acc w) (hb:b≤w.heap.size):
  Calls Tryz.prog 58 #[.pointer (some ⟨b,0,none⟩)] w fun e w'=> e= .returned (.string (sb acc))∧Below b w w':=by
 refine (Tryz.Builder_String_any_k b b acc w h hb).mono ?_
 rintro e w' ⟨rfl,h1,h2,h3⟩
 exact ⟨rfl,h2⟩
theorem q0s {P:Program} {f:FuncId} {args:Array Value} {w:World} {a n:Nat} {v:Value}
  (h:Calls P f args (w.drewN (a+n)) fun e w'=> e= .returned v∧w'=w.drewN (a+n)):
  Calls P f args (w.drewN (a+n)) fun e w''=> e= .returned v∧∃m,w''=w.drewN (a+m):=
 h.mono fun _ _ ⟨he,hw⟩=> ⟨he,n,hw⟩
structure ErrOk (w:World):Prop where
 syn:∃te pe,w.cell? ⟨4,0,none⟩=some (.iface te pe)
 ran:∃te pe,w.cell? ⟨5,0,none⟩=some (.iface te pe)
theorem ErrOk.below {w w':World} (h:ErrOk w) (hb:Below w.heap.size w w'):ErrOk w':=by
 obtain ⟨⟨a,b,h1⟩,⟨c,d,h2⟩⟩:=h
 exact ⟨⟨a,b,(qad hb).cell h1 (fun h=> h)⟩,⟨c,d,(qad hb).cell h2 (fun h=> h)⟩⟩
end Jt
theorem qa5 {P:Program} {ops:Array Oper} {Q:Exit→Act→World→Prop} {a:Act} {w:World} {rest:List Oper} {o:Oper} (hw:Region.wanted o (yielded ops a.tmps)=true)
  (h:∀K,(∀a' w',wpList P ops Q rest a' w'→K a' w')→o.wp P a w K Q):wpList P ops Q (o::rest) a w:=by
 rw [wpList,if_pos hw]
 exact .inl (h _ (fun _ _ h=> h))
theorem qae {P:Program} {fn:Func} {p u:Tmp} {ty:TypeId} (h:fn.results=#[.cell p ty, .tmp u]) (tmps:Array Value) (w:World) (g:Nat) (t:TypeId) (cs:Array Value) (fr:Nat×Nat) (d:TypeDesc)
  (hp:tmps.getD p undef= .pointer (some ⟨g,0,none⟩)) (hrow:w.heap[g]? =some (.cells cs t fr)) (hu:P.underlying ty=some d) (hd:(match d with | .struct _ | .array _ _=> true | _=> false)=true) (hi:(P.info? ty).map (·.size)=some cs.size):
  (results fn tmps).run P w= .ok (.tuple #[.agg cs,tmps.getD u undef]) w:=by
 rw [results_cell_tmp h,hp]
 simp [asAddr,Sem.run_pure,Result.andThen,run_loadVar_row w g t ty cs fr d hrow hu hd hi]
theorem qao {P:Program} {w:World} {ops:Array Oper} {rest:List Oper} {o:Oper} {a:Act} {Q:Exit→Act→World→Prop} (hw:Region.wanted o (yielded ops a.tmps)=true) (t:TypeId) (parts:Array (Nat×Operand)) (ho:o.op= .build t parts)
  (cells:Array Value) (hb:P.built t (parts.map fun (i,x)=> (i,a.eval x)).toList=some cells) (h:wpList P ops Q rest (a.put o.dst (.agg cells)) w):wpList P ops Q (o::rest) a w:=
 qa5 hw fun _ hK=> wp_build t parts ho (by rw [hb];rfl) (by rw [hb];exact hK _ _ h)
theorem qaf {w:World} {ops:Array Oper} {rest:List Oper} {o:Oper} {a:Act} {Q:Exit→Act→World→Prop} (hgd:o.guard=none) (t:TypeId) (x y:Operand) (ho:o.op= .store t x y)
  (b:Nat) (D:List Value) (hx:a.eval x= .pointer (some ⟨b,0,none⟩)) (hy:a.eval y= .agg D.toArray) (Z:List Value) (hZ:Z.length=D.length) (hr:Row w b t Z) (hi:(Tryz.prog.info? t).map (·.size)=some D.length) (h1:D.toArray.all (·.oneCell')=true)
  (h:∀w',Hid (Row w' b t D)→Hid (Kept w w' (·=b))→Hid (w'.heap.size=w.heap.size)→wpList Tryz.prog ops Q rest (a.put o.dst undef) w'):wpList Tryz.prog ops Q (o::rest) a w:=by
 refine wpList_store_row hgd t x y ho b D.toArray hx hy t Z.toArray hr (by rw [List.size_toArray];exact hi) (by rw [List.size_toArray,List.size_toArray,hZ]) h1 ?_
 exact h _ (hr.setRow _) (show Kept _ _ (·=b)from (Kept.refl w (·=b)).setRow (b:=b) (.inr rfl) _) (setRow_size _ _ _)
theorem qas {w:World} {ops:Array Oper} {rest:List Oper} {o:Oper} {a:Act} {Q:Exit→Act→World→Prop} (hw:Region.wanted o (yielded ops a.tmps)=true) (t:TypeId) (x:Operand) (ho:o.op= .load t x)
  (b off:Nat) (D:List Value) (C:Array Value) (hx:a.eval x= .pointer (some ⟨b,off,none⟩)) (d:TypeDesc) (hr:w.rangeAt b off D) (hu:Tryz.prog.underlying t=some d) (hd:d.isRow=true) (hi:(Tryz.prog.info? t).map (·.size)=some D.length) (hC:C=D.toArray)
  (h:wpList Tryz.prog ops Q rest (a.put o.dst (.agg C)) w):wpList Tryz.prog ops Q (o::rest) a w:=
 qa5 hw fun _ hK=> wp_load_mid t x ho b off hx D d hr hu hd hi (by subst hC;exact hK _ _ h)
theorem qan {w:World} {b:Nat} {t:TypeId} {D:List Value} (h:Row w b t D):w.rangeAt b 0 D:=h.range 0 _ (fun j v hj=> by rw [Nat.zero_add];exact hj)
end Go.Proofs.YtgmangikcfakgaaGreatDoor
