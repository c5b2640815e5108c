import Derived.Test.YtgmangikcfakgaaGreatDoorPP7
import Derived.Test.YtgmangikcfakgaaGreatDoorPP1
import Derived.Deep.CutBlock
import Derived.Deep.LoopGhost
import Derived.Lib.AtoiErrMem
import Derived.BigCall
import Derived.BigGuard
import Derived.Test.YtgmangikcfakgaaGreatDoorPP2
import Derived.Great.BuildSlice
import Derived.Maps.AppendAt
namespace Go.Proofs
open Go.Shelf
def Tryz.lays166_ren:Go.Shelf.Ren:=⟨fun | 166=> 145 | 240=> 91 | 276=> 125 | n=> n,fun | 0=> 0 | 3=> 3 | 4=> 4 | 5=> 5 | 9=> 9 | 20=> 20 | 37=> 22 | 70=> 76 | 72=> 78 | 75=> 80 | 80=> 83 | 164=> 142 | n=> n,fun | n=> n⟩
theorem Tryz.lays166:Go.Proofs.Lays.n166 Tryz.prog Tryz.lays166_ren:= {
 mixed:=by kernel_rfl
 f166:=Tryz.func145.trans (congrArg some (by kernel_rfl))
 f240:=Tryz.func91.trans (congrArg some (by kernel_rfl))
 f276:=Tryz.func125.trans (congrArg some (by kernel_rfl))
 t0:=Tryz.underlying0
 a0:=Tryz.isAgg0
 z0:=Tryz.sizeOf0
 v0:=Tryz.zeroValue0
 t3:=Tryz.underlying3
 a3:=Tryz.isAgg3
 z3:=Tryz.sizeOf3
 v3:=Tryz.zeroValue3
 t4:=Tryz.underlying4
 a4:=Tryz.isAgg4
 z4:=Tryz.sizeOf4
 v4:=Tryz.zeroValue4
 t9:=Tryz.underlying9
 a9:=Tryz.isAgg9
 z9:=Tryz.sizeOf9
 v9:=Tryz.zeroValue9
 t20:=Tryz.underlying20
 a20:=Tryz.isAgg20
 z20:=Tryz.sizeOf20
 v20:=Tryz.zeroValue20
 t37:=Tryz.underlying22
 a37:=Tryz.isAgg22
 z37:=Tryz.sizeOf22
 v37:=Tryz.zeroValue22
 t70:=Tryz.underlying76
 a70:=Tryz.isAgg76
 z70:=Tryz.sizeOf76
 v70:=Tryz.zeroValue76
 t72:=Tryz.underlying78
 a72:=Tryz.isAgg78
 z72:=Tryz.sizeOf78
 v72:=Tryz.zeroValue78
 t75:=Tryz.underlying80
 a75:=Tryz.isAgg80
 z75:=Tryz.sizeOf80
 v75:=Tryz.zeroValue80
 t164:=Tryz.underlying142
 a164:=Tryz.isAgg142
 z164:=Tryz.sizeOf142
 v164:=Tryz.zeroValue142}
theorem Tryz.Builder_Extra_166:Builder.Extra Tryz.prog Tryz.lays166_ren:= {
 sizeBuilder:=by kernel_rfl
 liesBuilder:=by kernel_rfl
 t5:=Tryz.underlying5
 a5:=Tryz.isAgg5
 z5:=Tryz.sizeOf5
 v5:=Tryz.zeroValue5
 infoByte:=by kernel_rfl
 cellsByte:=by kernel_rfl
 sizeByte:=by kernel_rfl
 neB5:=by decide}
def Tryz.lays167_ren:Go.Shelf.Ren:=⟨fun | 167=> 143 | 240=> 91 | 276=> 125 | n=> n,fun | 0=> 0 | 4=> 4 | 5=> 5 | 9=> 9 | 20=> 20 | 37=> 22 | 70=> 76 | 72=> 78 | 75=> 80 | 80=> 83 | 164=> 142 | n=> n,fun | n=> n⟩
theorem Tryz.lays167:Go.Proofs.Lays.n167 Tryz.prog Tryz.lays167_ren:= {
 mixed:=by kernel_rfl
 f167:=Tryz.func143.trans (congrArg some (by kernel_rfl))
 f240:=Tryz.func91.trans (congrArg some (by kernel_rfl))
 f276:=Tryz.func125.trans (congrArg some (by kernel_rfl))
 t0:=Tryz.underlying0
 a0:=Tryz.isAgg0
 z0:=Tryz.sizeOf0
 v0:=Tryz.zeroValue0
 t4:=Tryz.underlying4
 a4:=Tryz.isAgg4
 z4:=Tryz.sizeOf4
 v4:=Tryz.zeroValue4
 t5:=Tryz.underlying5
 a5:=Tryz.isAgg5
 z5:=Tryz.sizeOf5
 v5:=Tryz.zeroValue5
 t9:=Tryz.underlying9
 a9:=Tryz.isAgg9
 z9:=Tryz.sizeOf9
 v9:=Tryz.zeroValue9
 t20:=Tryz.underlying20
 a20:=Tryz.isAgg20
 z20:=Tryz.sizeOf20
 v20:=Tryz.zeroValue20
 t37:=Tryz.underlying22
 a37:=Tryz.isAgg22
 z37:=Tryz.sizeOf22
 v37:=Tryz.zeroValue22
 t70:=Tryz.underlying76
 a70:=Tryz.isAgg76
 z70:=Tryz.sizeOf76
 v70:=Tryz.zeroValue76
 t72:=Tryz.underlying78
 a72:=Tryz.isAgg78
 z72:=Tryz.sizeOf78
 v72:=Tryz.zeroValue78
 t75:=Tryz.underlying80
 a75:=Tryz.isAgg80
 z75:=Tryz.sizeOf80
 v75:=Tryz.zeroValue80
 t164:=Tryz.underlying142
 a164:=Tryz.isAgg142
 z164:=Tryz.sizeOf142
 v164:=Tryz.zeroValue142}
theorem Tryz.Builder_Extra_167:Builder.Extra Tryz.prog Tryz.lays167_ren:= {
 sizeBuilder:=by kernel_rfl
 liesBuilder:=by kernel_rfl
 t5:=Tryz.underlying5
 a5:=Tryz.isAgg5
 z5:=Tryz.sizeOf5
 v5:=Tryz.zeroValue5
 infoByte:=by kernel_rfl
 cellsByte:=by kernel_rfl
 sizeByte:=by kernel_rfl
 neB5:=by decide}
def Tryz.lays168_ren:Go.Shelf.Ren:=⟨fun | 168=> 57 | 240=> 91 | 242=> 92 | 276=> 125 | 278=> 126 | n=> n,fun | 0=> 0 | 3=> 3 | 4=> 4 | 5=> 5 | 9=> 9 | 20=> 20 | 21=> 21 | 37=> 22 | 46=> 141 | 51=> 144 | 70=> 76 | 72=> 78 | 75=> 80 | 80=> 83 | 164=> 142 | n=> n,fun | n=> n⟩
theorem Tryz.lays168:Go.Proofs.Lays.n168 Tryz.prog Tryz.lays168_ren:= {
 mixed:=by kernel_rfl
 f168:=Tryz.func57.trans (congrArg some (by kernel_rfl))
 f240:=Tryz.func91.trans (congrArg some (by kernel_rfl))
 f242:=Tryz.func92.trans (congrArg some (by kernel_rfl))
 f276:=Tryz.func125.trans (congrArg some (by kernel_rfl))
 f278:=Tryz.func126.trans (congrArg some (by kernel_rfl))
 t0:=Tryz.underlying0
 a0:=Tryz.isAgg0
 z0:=Tryz.sizeOf0
 v0:=Tryz.zeroValue0
 t3:=Tryz.underlying3
 a3:=Tryz.isAgg3
 z3:=Tryz.sizeOf3
 v3:=Tryz.zeroValue3
 t4:=Tryz.underlying4
 a4:=Tryz.isAgg4
 z4:=Tryz.sizeOf4
 v4:=Tryz.zeroValue4
 t5:=Tryz.underlying5
 a5:=Tryz.isAgg5
 z5:=Tryz.sizeOf5
 v5:=Tryz.zeroValue5
 t9:=Tryz.underlying9
 a9:=Tryz.isAgg9
 z9:=Tryz.sizeOf9
 v9:=Tryz.zeroValue9
 t20:=Tryz.underlying20
 a20:=Tryz.isAgg20
 z20:=Tryz.sizeOf20
 v20:=Tryz.zeroValue20
 t21:=Tryz.underlying21
 a21:=Tryz.isAgg21
 z21:=Tryz.sizeOf21
 v21:=Tryz.zeroValue21
 t37:=Tryz.underlying22
 a37:=Tryz.isAgg22
 z37:=Tryz.sizeOf22
 v37:=Tryz.zeroValue22
 t46:=Tryz.underlying141
 a46:=Tryz.isAgg141
 z46:=Tryz.sizeOf141
 v46:=Tryz.zeroValue141
 t51:=Tryz.underlying144
 a51:=Tryz.isAgg144
 z51:=Tryz.sizeOf144
 v51:=Tryz.zeroValue144
 t70:=Tryz.underlying76
 a70:=Tryz.isAgg76
 z70:=Tryz.sizeOf76
 v70:=Tryz.zeroValue76
 t72:=Tryz.underlying78
 a72:=Tryz.isAgg78
 z72:=Tryz.sizeOf78
 v72:=Tryz.zeroValue78
 t75:=Tryz.underlying80
 a75:=Tryz.isAgg80
 z75:=Tryz.sizeOf80
 v75:=Tryz.zeroValue80
 t164:=Tryz.underlying142
 a164:=Tryz.isAgg142
 z164:=Tryz.sizeOf142
 v164:=Tryz.zeroValue142}
theorem Tryz.Builder_Extra_168:Builder.Extra Tryz.prog Tryz.lays168_ren:= {
 sizeBuilder:=by kernel_rfl
 liesBuilder:=by kernel_rfl
 t5:=Tryz.underlying5
 a5:=Tryz.isAgg5
 z5:=Tryz.sizeOf5
 v5:=Tryz.zeroValue5
 infoByte:=by kernel_rfl
 cellsByte:=by kernel_rfl
 sizeByte:=by kernel_rfl
 neB5:=by decide}
open Go.RowKit in
theorem Tryz.Builder_WriteByte_k (B b:Nat) (bs:List Value) (c:Int) (w:World) (h:Lib.IsBuilderF 78 5 B b bs w) (hlen:bs.length+1≤140737488355328) (hBw:B≤w.heap.size):
  Calls Tryz.prog 143 #[.pointer (some ⟨b,0,none⟩), .int .u8 c] w fun e w'=> e= .returned .nilIface∧(Lib.BuilderAtF 78 5 B b (.pointer (some ⟨b,0,none⟩)) (bs++[.int .u8 c]) w'∧Below B w w'∧Lib.OthersKept 5 (some b) w w'):=Any.Builder_WriteByte_k Tryz.lays167 Tryz.Builder_Extra_167 B b bs c w h hlen hBw
open Go.RowKit in
theorem Tryz.Builder_WriteString_k (B b:Nat) (bs:List Value) (s:ByteArray) (w:World) (h:Lib.IsBuilderF 78 5 B b bs w) (hlen:bs.length+s.size≤140737488355328) (hBw:B≤w.heap.size):
  Calls Tryz.prog 145 #[.pointer (some ⟨b,0,none⟩), .string s] w fun e w'=> e= .returned (.tuple #[.int .i64 s.size, .nilIface])∧(Lib.BuilderAtF 78 5 B b (.pointer (some ⟨b,0,none⟩)) (bs++Lib.strCells s) w'∧Below B w w'∧Lib.OthersKept 5 (some b) w w'):=Any.Builder_WriteString_k Tryz.lays166 Tryz.Builder_Extra_166 B b bs s w h hlen hBw
open Go.RowKit in
theorem Tryz.Builder_WriteRune_k (B b:Nat) (bs:List Value) (r:Int) (hr0: -2147483648≤r) (hr1:r≤2147483647) (w:World) (h:Lib.IsBuilderF 78 5 B b bs w) (hlen:bs.length+4≤140737488355328) (hBw:B≤w.heap.size):
  Calls Tryz.prog 57 #[.pointer (some ⟨b,0,none⟩), .int .i32 r] w fun e w'=> e= .returned (.tuple #[.int .i64 (Lib.runeCells r).length, .nilIface])∧(Lib.BuilderAtF 78 5 B b (.pointer (some ⟨b,0,none⟩)) (bs++Lib.runeCells r) w'∧Below B w w'∧Lib.OthersKept 5 (some b) w w'):=Any.Builder_WriteRune_k Tryz.lays168 Tryz.Builder_Extra_168 B b bs r hr0 hr1 w h hlen hBw
end Go.Proofs
namespace Go.Proofs.YtgmangikcfakgaaGreatDoor
open Go.RowKit Sh
namespace Jt
def sb (l:List UInt8):ByteArray:=⟨l.toArray⟩
theorem sb_data (l:List UInt8):(sb l).data.toList=l:=rfl
theorem sb_size (l:List UInt8):(sb l).size=l.length:=rfl
theorem sb_list (l:List UInt8):(sb l).toList=l:=ByteArray.toList_eq _
theorem sb_app (a b:List UInt8):sb a++sb b=sb (a++b):=by
 apply ByteArray.ext
 simp [sb]
theorem sb_cut (l:List UInt8) (a b:Nat):(sb l).extract a b=sb ((l.take b).drop a):=by
 apply ByteArray.ext
 rw [ByteArray.data_extract]
 simp [sb,List.drop_take]
theorem sb_index (l:List UInt8) (j:Nat) (hj:j < l.length) (W:World):(Instr.index 9 (.string (sb l)) (.int .i64 (j:Int))).run Tryz.prog W= .ok (.int .u8 (n8 l[j])) W:=by
 have hs:(sb l)[j]? =some l[j]:=by
  rw [getElem?_pos (sb l) j (by exact hj)]
  rfl
 simp [Instr.index,run_underlying Tryz.underlying9,asIntOf,hs,n8]
theorem n8_is {x c:UInt8} (h:n8 x=n8 c):x=c:=UInt8.toNat_inj.1 (by unfold n8 at h;omega)
theorem n8_to (c:UInt8):(n8 c).toNat.toUInt8=c:=by
 rw [show (n8 c).toNat=c.toNat from Int.toNat_natCast _]
 exact UInt8.ofNat_toNat
theorem n8_of {n:Nat} (h:n < 256):n8 (UInt8.ofNat n)=(n:Int):=by
 unfold n8
 rw [toN n h]
theorem at_of (l:List UInt8) {i:Nat} (h:i < l.length):l.drop i=l[i]::l.drop (i+1):=List.drop_eq_getElem_cons h
theorem dec_at (l:List UInt8) {i:Nat} (h:i < l.length):Utf8.decode (sb l) i=orBad (charF (l[i]::l.drop (i+1))):=decode_is (at_of l h)
theorem has_sb (s p:List UInt8) (w:World):Calls Tryz.prog 180 #[.string (sb s), .string (sb p)] w fun e w'=> e= .returned (.bool (p.isPrefixOf s))∧w'=w:=Tryz.strings_HasPrefix (sb s) (sb p) w
theorem trim_sb (s p:List UInt8) (w:World):Calls Tryz.prog 178 #[.string (sb s), .string (sb p)] w fun e w'=> e= .returned (.string (sb (if p.isPrefixOf s=true then s.drop p.length else s)))∧w'=w:=Tryz.strings_TrimPrefix (sb s) (sb p) w
theorem cutp_sb (s p:List UInt8) (w:World):Calls Tryz.prog 137 #[.string (sb s), .string (sb p)] w fun e w'=> e= .returned (.tuple #[.string (sb (if p.isPrefixOf s=true then s.drop p.length else s)), .bool (p.isPrefixOf s)])∧w'=w:=Tryz.strings_CutPrefix (sb s) (sb p) w
theorem idx_sb (s:List UInt8) (c:UInt8) (w:World):Calls Tryz.prog 138 #[.string (sb s), .int .u8 (n8 c)] w fun e w'=> e= .returned (.int .i64 (Lib.indexByte s c))∧w'=w:=by
 have h:=Tryz.strings_IndexByte (sb s) (n8 c) w
 rw [n8_to,sb_data]at h
 exact h
def Bld (b:Nat) (acc:List UInt8) (w:World):Prop:=Lib.IsBuilderF 78 5 b b (Lib.byteCells acc) w
theorem Bld.fresh (w:World):Bld w.heap.size [] (w.alloc (.cells #[.pointer none, .slice none 0 0] 78)):=Lib.IsBuilderF.of (Lib.fresh_isBuilder _ _ w)
theorem Bld.alloc {b:Nat} {acc:List UInt8} {w:World} (h:Bld b acc w) (o:Obj):Bld b acc (w.alloc o):=Lib.IsBuilderF.alloc h o
theorem Bld.iterAt {b:Nat} {acc:List UInt8} {w:World} (h:Bld b acc w) {k:Nat} {s:ByteArray} {pos:Nat} (hk:w.heap[k]? =some (.stringIter s pos)) (pos':Nat):Bld b acc (w.iterAt k s pos'):=Lib.IsBuilderF.iterAt h hk pos'
theorem Bld.below {b:Nat} {acc:List UInt8} {w w':World} (h:Bld b acc w) (hb:Below w.heap.size w w'):Bld b acc w':=by
 have key:∀p,Lib.BuilderAtF 78 5 b b p (Lib.byteCells acc) w→Lib.BuilderAtF 78 5 b b p (Lib.byteCells acc) w':=fun p hp=> by
  obtain ⟨hB,v,hh,hown,hne⟩:=hp
  refine ⟨hB,v,(hb.block b (Array.getElem?_eq_some_iff.1 hh).1).trans hh,⟨hown.1, ?_⟩,hne⟩
  rcases hown.2 with hn | ⟨g,cap,cur,fz,hv,hbg,hg,rest⟩
  ·exact .inl hn
  ·exact .inr ⟨g,cap,cur,fz,hv,hbg,(hb.block g (Array.getElem?_eq_some_iff.1 hg).1).trans hg,rest⟩
 exact h.elim (fun x=> .inl (key _ x)) (fun x=> .inr (key _ x))
theorem heap_below {w w':World} {k:Nat} {o:Obj} (h:w.heap[k]? =some o) (hb:Below w.heap.size w w'):w'.heap[k]? =some o:=
 (hb.block k (Array.getElem?_eq_some_iff.1 h).1).trans h
structure Wrote (b:Nat) (acc:List UInt8) (w w':World):Prop where
 bld:Bld b acc w'
 below:Below b w w'
 kept:Lib.OthersKept 5 (some b) w w'
theorem bld_byte {b:Nat} {acc:List UInt8} {w:World} (h:Bld b acc w) (hl:acc.length≤100000000000) (hb:b≤w.heap.size) (c:UInt8):
  Calls Tryz.prog 143 #[.pointer (some ⟨b,0,none⟩), .int .u8 (n8 c)] w fun e w'=> e= .returned .nilIface∧Wrote b (acc++[c]) w w':=by
 refine (Tryz.Builder_WriteByte_k b b _ (n8 c) w h (by rw [Lib.byteCells_length];omega) hb).mono ?_
 rintro e w' ⟨rfl,h1,h2,h3⟩
 refine ⟨rfl, ?_,h2,h3⟩
 unfold Bld
 rw [Lib.byteCells_append]
 exact .inr h1
theorem bld_str {b:Nat} {acc:List UInt8} {w:World} (h:Bld b acc w) (hl:acc.length≤100000000000) (hb:b≤w.heap.size) (s:List UInt8) (hs:s.length≤100000000000):
  Calls Tryz.prog 145 #[.pointer (some ⟨b,0,none⟩), .string (sb s)] w fun e w'=> e= .returned (.tuple #[.int .i64 (s.length:Int), .nilIface])∧Wrote b (acc++s) w w':=by
 refine (Tryz.Builder_WriteString_k b b _ (sb s) w h (by rw [Lib.byteCells_length,sb_size];omega) hb).mono ?_
 rintro e w' ⟨rfl,h1,h2,h3⟩
 refine ⟨rfl, ?_,h2,h3⟩
 unfold Bld
 rw [Lib.byteCells_append]
 exact .inr h1
theorem bld_rune {b:Nat} {acc:List UInt8} {w:World} (h:Bld b acc w) (hl:acc.length≤100000000000) (hb:b≤w.heap.size) {n:Nat} (hn:scalar n=true):
  Calls Tryz.prog 57 #[.pointer (some ⟨b,0,none⟩), .int .i32 (n:Int)] w fun e w'=> (∃v,e= .returned v)∧Wrote b (acc++bytesF n) w w':=by
 have hs:=scalar_is.1 hn
 refine (Tryz.Builder_WriteRune_k b b _ (n:Int) (by omega) (by omega) w h (by rw [Lib.byteCells_length];omega) hb).mono ?_
 rintro e w' ⟨rfl,h1,h2,h3⟩
 refine ⟨⟨_,rfl⟩, ?_,h2,h3⟩
 rw [←Lib.byteCells_encodeRune,enc_is hn,←Lib.byteCells_append]at h1
 exact .inr h1
theorem bld_out {b:Nat} {acc:List UInt8} {w:World} (h:Bld b acc w) (hb:b≤w.heap.size):
  Calls Tryz.prog 58 #[.pointer (some ⟨b,0,none⟩)] w fun e w'=> e= .returned (.string (sb acc))∧Below b w w':=by
 refine (Tryz.Builder_String_any_k b b acc w h hb).mono ?_
 rintro e w' ⟨rfl,h1,h2,h3⟩
 exact ⟨rfl,h2⟩
theorem quiet_eq {P:Program} {f:FuncId} {args:Array Value} {w:World} {a n:Nat} {v:Value}
  (h:Calls P f args (w.drewN (a+n)) fun e w'=> e= .returned v∧w'=w.drewN (a+n)):
  Calls P f args (w.drewN (a+n)) fun e w''=> e= .returned v∧∃m,w''=w.drewN (a+m):=
 h.mono fun _ _ ⟨he,hw⟩=> ⟨he,n,hw⟩
structure ErrOk (w:World):Prop where
 syn:∃te pe,w.cell? ⟨4,0,none⟩=some (.iface te pe)
 ran:∃te pe,w.cell? ⟨5,0,none⟩=some (.iface te pe)
theorem ErrOk.below {w w':World} (h:ErrOk w) (hb:Below w.heap.size w w'):ErrOk w':=by
 obtain ⟨⟨a,b,h1⟩,⟨c,d,h2⟩⟩:=h
 exact ⟨⟨a,b,(kept_below hb).cell h1 (fun h=> h)⟩,⟨c,d,(kept_below hb).cell h2 (fun h=> h)⟩⟩
end Jt
end Go.Proofs.YtgmangikcfakgaaGreatDoor
namespace Go.Proofs.YtgmangikcfakgaaGreatDoor
open Go.RowKit Sh
theorem wpList_wanted {P:Program} {ops:Array Oper} {Q:Exit→Act→World→Prop} {a:Act} {w:World} {rest:List Oper} {o:Oper} (hw:Region.wanted o (yielded ops a.tmps)=true)
  (h:∀K,(∀a' w',wpList P ops Q rest a' w'→K a' w')→o.wp P a w K Q):wpList P ops Q (o::rest) a w:=by
 rw [wpList,if_pos hw]
 exact .inl (h _ (fun _ _ h=> h))
theorem results_row_tmp {P:Program} {fn:Func} {p u:Tmp} {ty:TypeId} (h:fn.results=#[.cell p ty, .tmp u]) (tmps:Array Value) (w:World) (g:Nat) (t:TypeId) (cs:Array Value) (fr:Nat×Nat) (d:TypeDesc)
  (hp:tmps.getD p undef= .pointer (some ⟨g,0,none⟩)) (hrow:w.heap[g]? =some (.cells cs t fr)) (hu:P.underlying ty=some d) (hd:(match d with | .struct _ | .array _ _=> true | _=> false)=true) (hi:(P.info? ty).map (·.size)=some cs.size):
  (results fn tmps).run P w= .ok (.tuple #[.agg cs,tmps.getD u undef]) w:=by
 rw [results_cell_tmp h,hp]
 simp [asAddr,Sem.run_pure,Result.andThen,run_loadVar_row w g t ty cs fr d hrow hu hd hi]
theorem build_all {P:Program} {w:World} {ops:Array Oper} {rest:List Oper} {o:Oper} {a:Act} {Q:Exit→Act→World→Prop} (hw:Region.wanted o (yielded ops a.tmps)=true) (t:TypeId) (parts:Array (Nat×Operand)) (ho:o.op= .build t parts)
  (cells:Array Value) (hb:P.built t (parts.map fun (i,x)=> (i,a.eval x)).toList=some cells) (h:wpList P ops Q rest (a.put o.dst (.agg cells)) w):wpList P ops Q (o::rest) a w:=
 wpList_wanted hw fun _ hK=> wp_build t parts ho (by rw [hb];rfl) (by rw [hb];exact hK _ _ h)
theorem store_all {w:World} {ops:Array Oper} {rest:List Oper} {o:Oper} {a:Act} {Q:Exit→Act→World→Prop} (hgd:o.guard=none) (t:TypeId) (x y:Operand) (ho:o.op= .store t x y)
  (b:Nat) (D:List Value) (hx:a.eval x= .pointer (some ⟨b,0,none⟩)) (hy:a.eval y= .agg D.toArray) (Z:List Value) (hZ:Z.length=D.length) (hr:Row w b t Z) (hi:(Tryz.prog.info? t).map (·.size)=some D.length) (h1:D.toArray.all (·.oneCell')=true)
  (h:∀w',Hid (Row w' b t D)→Hid (Kept w w' (·=b))→Hid (w'.heap.size=w.heap.size)→wpList Tryz.prog ops Q rest (a.put o.dst undef) w'):wpList Tryz.prog ops Q (o::rest) a w:=by
 refine wpList_store_row hgd t x y ho b D.toArray hx hy t Z.toArray hr (by rw [List.size_toArray];exact hi) (by rw [List.size_toArray,List.size_toArray,hZ]) h1 ?_
 exact h _ (hr.setRow _) (show Kept _ _ (·=b)from (Kept.refl w (·=b)).setRow (b:=b) (.inr rfl) _) (setRow_size _ _ _)
theorem load_all {w:World} {ops:Array Oper} {rest:List Oper} {o:Oper} {a:Act} {Q:Exit→Act→World→Prop} (hw:Region.wanted o (yielded ops a.tmps)=true) (t:TypeId) (x:Operand) (ho:o.op= .load t x)
  (b off:Nat) (D:List Value) (C:Array Value) (hx:a.eval x= .pointer (some ⟨b,off,none⟩)) (d:TypeDesc) (hr:w.rangeAt b off D) (hu:Tryz.prog.underlying t=some d) (hd:d.isRow=true) (hi:(Tryz.prog.info? t).map (·.size)=some D.length) (hC:C=D.toArray)
  (h:wpList Tryz.prog ops Q rest (a.put o.dst (.agg C)) w):wpList Tryz.prog ops Q (o::rest) a w:=
 wpList_wanted hw fun _ hK=> wp_load_mid t x ho b off hx D d hr hu hd hi (by subst hC;exact hK _ _ h)
theorem rangeAt_row {w:World} {b:Nat} {t:TypeId} {D:List Value} (h:Row w b t D):w.rangeAt b 0 D:=h.range 0 _ (fun j v hj=> by rw [Nat.zero_add];exact hj)
end Go.Proofs.YtgmangikcfakgaaGreatDoor
namespace Go.Proofs.YtgmangikcfakgaaGreatDoor
open Go.RowKit Sh Jt Js
namespace Js
def vv (v:V):List Value:=[.int .i64 v.kind, .string (sb v.key), .string (sb v.text), .int .i64 v.count]
def cellsV (L:List V):List Value:=L.flatMap vv
theorem cellsV_cons (v:V) (L:List V):cellsV (v::L)=vv v++cellsV L:=rfl
theorem cellsV_len (L:List V):(cellsV L).length=L.length*4:=by
 induction L with
 | nil=> rfl
 | cons v r ih=>
  rw [cellsV_cons,List.length_append,List.length_cons,ih]
  change 4+r.length*4=_
  omega
theorem cellsV_app (a b:List V):cellsV (a++b)=cellsV a++cellsV b:=by simp [cellsV]
theorem cellsV_at (L:List V) (i j:Nat) (hi:i < L.length) (hj:j < 4):(cellsV L)[i*4+j]? =(vv L[i])[j]? :=by
 have e:cellsV L=cellsV (L.take i)++(vv L[i]++cellsV (L.drop (i+1))):=by
  conv=> lhs;rw [←List.take_append_drop i L,cellsV_app,List.drop_eq_getElem_cons hi]
  rfl
 have hl:(cellsV (L.take i)).length=i*4:=by rw [cellsV_len,List.length_take,Nat.min_eq_left (Nat.le_of_lt hi)]
 rw [e,List.getElem?_append_right (by omega),hl,show i*4+j - i*4=j by omega,List.getElem?_append_left (by exact hj)]
theorem cellsV_one (L:List V):∀v∈cellsV L,v.oneCell'=true:=by
 intro v hv
 obtain ⟨p,_,h⟩:=List.mem_flatMap.1 hv
 simp only [vv,List.mem_cons,List.not_mem_nil,or_false]at h
 rcases h with rfl | rfl | rfl | rfl <;> rfl
end Js
structure ValsAt (w:World) (A:Option Addr) (n c:Nat) (L:List V):Prop where
 len:L.length=n
 cap:n≤c
 at_:0 < n→∃b o,A=some ⟨b,o,none⟩∧b < w.heap.size∧w.rangeAt b o (cellsV L)
theorem ValsAt.nil (w:World) (A:Option Addr) (c:Nat):ValsAt w A 0 c []:=⟨rfl,Nat.zero_le _,fun h=> absurd h (by decide)⟩
theorem ValsAt.kept {w w':World} {S:Nat→Prop} {A:Option Addr} {n c:Nat} {L:List V} (h:ValsAt w A n c L) (k:Kept w w' S) (hS:∀b o,A=some ⟨b,o,none⟩→b < w.heap.size→¬S b):ValsAt w' A n c L:=
 ⟨h.len,h.cap,fun hn=> by
  obtain ⟨b,o,e,hlt,hr⟩:=h.at_ hn
  exact ⟨b,o,e,Nat.lt_of_lt_of_le hlt k.size,rangeAt_kept hr k (hS b o e hlt)⟩⟩
theorem ValsAt.below {w w':World} {A:Option Addr} {n c:Nat} {L:List V} (h:ValsAt w A n c L) (hb:Below w.heap.size w w'):ValsAt w' A n c L:=
 h.kept (kept_below hb) (fun _ _ _ _ h=> h)
theorem ValsAt.cells {w:World} {b o n c:Nat} {L:List V} (h:ValsAt w (some ⟨b,o,none⟩) n c L) {i:Nat} (hi:i < L.length):
  w.cell? ⟨b,o+i*4,none⟩=some (.int .i64 L[i].kind)∧w.cell? ⟨b,o+i*4+1,none⟩=some (.string (sb L[i].key))∧w.cell? ⟨b,o+i*4+2,none⟩=some (.string (sb L[i].text))∧w.cell? ⟨b,o+i*4+3,none⟩=some (.int .i64 L[i].count):=by
 obtain ⟨b',o',e,_,hr⟩:=h.at_ (by have:=h.len;omega)
 cases e
 have g:∀j v,(cellsV L)[i*4+j]? =some v→w.cell? ⟨b,o+i*4+j,none⟩=some v:=fun j v hv=> by
  rw [Nat.add_assoc]
  exact hr _ _ hv
 refine ⟨g 0 _ ?_,g 1 _ ?_,g 2 _ ?_,g 3 _ ?_⟩ <;> rw [cellsV_at L i _ hi (by decide)] <;> rfl
theorem ValsAt.head {w:World} {b o n c:Nat} {v:V} {L:List V} (h:ValsAt w (some ⟨b,o,none⟩) n c (v::L)):
  w.cell? ⟨b,o,none⟩=some (.int .i64 v.kind)∧w.cell? ⟨b,o+1,none⟩=some (.string (sb v.key))∧w.cell? ⟨b,o+2,none⟩=some (.string (sb v.text))∧w.cell? ⟨b,o+3,none⟩=some (.int .i64 v.count):=by
 have:=h.cells (i:=0) (by simp)
 simpa using this
theorem ValsAt.sub {w:World} {b o n c:Nat} {L:List V} (h:ValsAt w (some ⟨b,o,none⟩) n c L) {i k:Nat} (hk:i+k≤n):ValsAt w (some ⟨b,o+i*4,none⟩) k (c - i) ((L.drop i).take k):=by
 have hl:=h.len
 have hc:=h.cap
 refine ⟨by rw [List.length_take,List.length_drop];omega,by omega,fun h0=> ?_⟩
 obtain ⟨b',o',e,hlt,hr⟩:=h.at_ (by omega)
 cases e
 refine ⟨b,_,rfl,hlt,fun j v hj=> ?_⟩
 have hjl:=(List.getElem?_eq_some_iff.1 hj).1
 rw [cellsV_len,List.length_take,List.length_drop]at hjl
 have hi:j / 4 < ((L.drop i).take k).length:=by rw [List.length_take,List.length_drop];omega
 have ej:j=j / 4*4+j % 4:=by omega
 rw [ej,cellsV_at _ _ _ hi (by omega)]at hj
 have hget:((L.drop i).take k)[j / 4]=L[i+j / 4]'(by rw [List.length_take,List.length_drop]at hi;omega):=by
  rw [List.getElem_take,List.getElem_drop]
 rw [hget]at hj
 rw [←cellsV_at L (i+j / 4) (j % 4) (by rw [List.length_take,List.length_drop]at hi;omega) (by omega)]at hj
 have:=hr _ _ hj
 rwa [show o+((i+j / 4)*4+j % 4)=o+i*4+j by omega]at this
theorem ValsAt.lay {w:World} {b:Nat} {L:List V} (h:Row w b 72 (cellsV L)) (n:Nat) (hn:L.length=n):ValsAt w (some ⟨b,0,none⟩) n n L:=
 ⟨hn,Nat.le_refl _,fun _=> ⟨b,0,rfl,h.lt,h.range 0 _ (fun j v hj=> by rw [Nat.zero_add];exact hj)⟩⟩
def OwnVals (w:World) (B:Nat) (v:Value) (L:List V):Prop:=w.ownsRow B 72 4 v L.length (cellsV L)
theorem OwnVals.nil (w:World) (B:Nat):OwnVals w B (.slice none 0 0) []:=⟨rfl, .inl ⟨rfl,rfl⟩⟩
theorem OwnVals.kept {w w':World} {S:Nat→Prop} {B:Nat} {v:Value} {L:List V} (h:OwnVals w B v L) (k:Kept w w' S) (hS:∀b,v.ownBlock=some b→¬S b):OwnVals w' B v L:=by
 obtain ⟨hl,h1 | ⟨g,cap,cur,rfl,hg,hh,hn,hc,hs,ht⟩⟩:=h
 ·exact ⟨hl, .inl h1⟩
 ·exact ⟨hl, .inr ⟨g,cap,cur,rfl,hg,(k.block g (Array.getElem?_eq_some_iff.1 hh).1 (hS g rfl)).trans hh,hn,hc,hs,ht⟩⟩
theorem OwnVals.below {w w':World} {B:Nat} {v:Value} {L:List V} (h:OwnVals w B v L) (hb:Below w.heap.size w w'):OwnVals w' B v L:=h.kept (kept_below hb) (fun _ _ h=> h)
theorem OwnVals.mono {w:World} {B B':Nat} {v:Value} {L:List V} (h:OwnVals w B v L) (hB:B'≤B):OwnVals w B' v L:=by
 obtain ⟨hl,h1 | ⟨g,cap,cur,rfl,hg,rest⟩⟩:=h
 ·exact ⟨hl, .inl h1⟩
 ·exact ⟨hl, .inr ⟨g,cap,cur,rfl,Nat.le_trans hB hg,rest⟩⟩
theorem OwnVals.vals {w:World} {B:Nat} {v:Value} {L:List V} (h:OwnVals w B v L):∃(A:Option Addr) (c:Nat),v= .slice A L.length c∧ValsAt w A L.length c L∧(A=none→c=0)∧(∀a,A=some a→∃g,a=⟨g,0,none⟩∧B≤g∧g < w.heap.size)∧c≤maxLen:=by
 obtain ⟨hl,⟨rfl,h0⟩ | ⟨g,cap,cur,rfl,hg,hh,hn,hc,hs,ht⟩⟩:=h
 ·have:L=[]:=List.eq_nil_of_length_eq_zero h0
  subst this
  exact ⟨none,0,rfl,ValsAt.nil w _ _,fun _=> rfl,(fun a e=> by cases e),Nat.zero_le _⟩
 ·have hlt:=(Array.getElem?_eq_some_iff.1 hh).1
  refine ⟨some ⟨g,0,none⟩,cap,rfl,⟨rfl,hn,fun _=> ⟨g,0,rfl,hlt,fun j u hj=> ?_⟩⟩,(fun e=> by cases e),fun a e=> ⟨g,(Option.some.inj e).symm,hg,hlt⟩,hc⟩
  have hjl:=(List.getElem?_eq_some_iff.1 hj).1
  rw [cellsV_len]at hjl
  rw [cell_of_row _ _ _ _ _ _ hh,Nat.zero_add,←hj,←ht,List.getElem?_take,if_pos hjl]
  simp
theorem OwnVals.at_ {w:World} {B:Nat} {A:Option Addr} {n c:Nat} {L:List V} (h:OwnVals w B (.slice A n c) L):ValsAt w A n c L∧L.length=n:=by
 obtain ⟨A',c',e,h2,_⟩:=h.vals
 simp only [Value.slice.injEq]at e
 obtain ⟨rfl,rfl,rfl⟩:=e
 exact ⟨h2,rfl⟩
theorem OwnVals.got {w:World} {B:Nat} {v:Value} {L:List V} (h:OwnVals w B v L) (h0:0 < L.length):∃g c,v= .slice (some ⟨g,0,none⟩) L.length c∧B≤g∧g < w.heap.size∧L.length≤c:=by
 obtain ⟨hl,⟨rfl,h1⟩ | ⟨g,cap,cur,rfl,hg,hh,hn,hc,hs,ht⟩⟩:=h
 ·omega
 ·exact ⟨g,cap,rfl,hg,(Array.getElem?_eq_some_iff.1 hh).1,hn⟩
theorem OwnVals.unfrozen {w:World} {B g n c:Nat} {L:List V} (h:OwnVals w B (.slice (some ⟨g,0,none⟩) n c) L) (i:Nat):w.frozen? ⟨g,i,none⟩=false:=by
 obtain ⟨hl,⟨e,_⟩ | ⟨g',cap,cur,e,hg,hh,_⟩⟩:=h
 ·cases e
 ·simp only [Value.slice.injEq,Option.some.injEq,Addr.mk.injEq]at e
  obtain ⟨⟨rfl,_⟩,_,_⟩:=e
  simp [World.frozen?,hh]
theorem OwnVals.set {w:World} {B g n c:Nat} {L:List V} (h:OwnVals w B (.slice (some ⟨g,0,none⟩) n c) L) {i j:Nat} (hi:i < L.length) (hj:j < 4) {x:Value} {v:V} (hv:vv v=(vv L[i]).set j x):
  OwnVals (w.setCell ⟨g,i*4+j,none⟩ x) B (.slice (some ⟨g,0,none⟩) n c) (L.set i v):=by
 obtain ⟨hl,⟨e,_⟩ | ⟨g',cap,cur,e,hg,hh,hn,hc,hs,ht⟩⟩:=h
 ·cases e
 ·simp only [Value.slice.injEq,Option.some.injEq,Addr.mk.injEq]at e
  obtain ⟨⟨rfl,_⟩,rfl,rfl⟩:=e
  refine ⟨by rw [cellsV_len], .inr ⟨g,c,cur.setIfInBounds (i*4+j) x,by rw [List.length_set],hg,heap_setCell_same w g _ cur _ x hh,by rw [List.length_set];exact hn,hc,by simpa using hs, ?_⟩⟩
  rw [List.length_set,Array.toList_setIfInBounds,List.take_set,ht]
  apply List.ext_getElem?
  intro k
  rw [List.getElem?_set,cellsV_len]
  by_cases hk:k < L.length*4
  ·have ek:k=k / 4*4+k % 4:=by omega
   have h1:k / 4 < (L.set i v).length:=by rw [List.length_set];omega
   have e2:(cellsV (L.set i v))[k]? =(vv ((L.set i v)[k / 4]))[k % 4]? :=by
    conv=> lhs;rw [ek]
    exact cellsV_at _ _ _ h1 (by omega)
   have e3:(cellsV L)[k]? =(vv (L[k / 4]'(by omega)))[k % 4]? :=by
    conv=> lhs;rw [ek]
    exact cellsV_at _ _ _ _ (by omega)
   rw [e2]
   by_cases hki:i*4+j=k
   ·have h4:k / 4=i:=by omega
    have h5:k % 4=j:=by omega
    rw [if_pos hki,if_pos (by omega),h5]
    have:(L.set i v)[k / 4]=v:=by simp [h4]
    rw [this,hv,List.getElem?_set_self (by exact hj)]
   ·rw [if_neg hki,e3]
    by_cases h4:i=k / 4
    ·have:(L.set i v)[k / 4]=v:=by simp [h4]
     rw [this,hv,List.getElem?_set,if_neg (by omega)]
     simp only [h4]
    ·rw [List.getElem_set,if_neg h4]
  ·have e1:(cellsV L)[k]? =none:=List.getElem?_eq_none (by rw [cellsV_len];omega)
   have e2:(cellsV (L.set i v))[k]? =none:=List.getElem?_eq_none (by rw [cellsV_len,List.length_set];omega)
   rw [if_neg (by omega),e1,e2]
theorem js_infoZ:∃i,Tryz.prog.info? 72=some i∧i.zero=some (.agg #[.int .i64 0, .string ⟨#[]⟩, .string ⟨#[]⟩, .int .i64 0])∧i.size=4∧i.bytes=48:=by
 have h:(Tryz.prog.info? 72).map (fun i=> (i.zero,i.size,i.bytes))=some (some (.agg #[.int .i64 0, .string ⟨#[]⟩, .string ⟨#[]⟩, .int .i64 0]),4,48):=by kernel_rfl
 obtain ⟨i,hi,hz⟩:=Option.map_eq_some_iff.1 h
 simp only [Prod.mk.injEq]at hz
 exact ⟨i,hi,hz.1,hz.2.1,hz.2.2⟩
theorem append_vals {w:World} {ops:Array Oper} {rest:List Oper} {o:Oper} {a:Act} {Q:Exit→Act→World→Prop} (hg:o.guard=none) (s x:Operand)
  (ho:o.op= .call {callee:= .builtin .append,args:=#[s,x],argTypes:=#[26,26]}) (B:Nat) (v:Value) (L:List V) (hs:a.eval s=v) (hown:OwnVals w B v L)
  (ad:Addr) (n c:Nat) (M:List V) (hx:a.eval x= .slice (some ad) n c) (hsrc:ValsAt w (some ad) n c M) (hb:L.length+n≤1000000000000) (hB:B≤w.heap.size)
  (h:∀v' w',Hid (OwnVals w' B v' (L++M))→Hid (Kept w w' (fun k=> B≤k∧v.ownBlock=some k))→Hid (∀k,v'.ownBlock=some k→v.ownBlock=some k∨w.heap.size≤k)→wpList Tryz.prog ops Q rest (a.put o.dst v') w'):wpList Tryz.prog ops Q (o::rest) a w:=by
 obtain ⟨i,hi,hz,hsz,hby⟩:=js_infoZ
 have hlen:=hsrc.len
 have hnews:∀j u,(cellsV M)[j]? =some u→w.cell? (ad.add j)=some u:=by
  intro j u hj
  have hjl:=(List.getElem?_eq_some_iff.1 hj).1
  rw [cellsV_len]at hjl
  obtain ⟨b,off,e,_,hr⟩:=hsrc.at_ (by omega)
  simp only [Option.some.injEq]at e
  subst e
  rw [Addr.add_mid]
  exact hr j u hj
 obtain ⟨v',w',hr,h2,h3,h4,h5⟩:=run_append_own_at (P:=Tryz.prog) w B 26 o.type 72 i (.agg #[.int .i64 0, .string ⟨#[]⟩, .string ⟨#[]⟩, .int .i64 0]) 4 48 Tryz.underlying26 hi hz hsz hby rfl (by decide) v L.length (cellsV L) hown ad n c (cellsV M)
  (by rw [cellsV_len,hlen]) hnews (cellsV_one M) (by unfold maxLen;omega) (by omega) hB
 refine wpList_wanted (by simp [Region.wanted,hg]) fun K hK=> ?_
 unfold Oper.wp execOp
 simp only [ho,resolve,invoke,builtin,Sem.run_bind,Sem.run_pure,Result.andThen_ok,List.map_toArray,List.map_cons,List.map_nil,hs,hx,hr]
 refine hK _ _ (h v' w' ?_ ?_ ?_)
 ·show w'.ownsRow B _ 4 v' (L++M).length (cellsV (L++M))
  rw [List.length_append,hlen,cellsV_app]
  exact h2
 ·refine ⟨h3.os,h3.tape,h3.output,h3.size,fun k hk hn=> h3.block k hk (fun e=> hn ?_)⟩
  obtain ⟨_,⟨rfl,_⟩ | ⟨g,cap,cur,rfl,hg,_⟩⟩:=hown
  ·cases e
  ·have e':g=k:=by simpa [Value.ownBlock] using e.symm
   subst e'
   exact ⟨hg,rfl⟩
 ·intro k hk
  rcases h5 with h5 | h5
  ·exact .inl (h5▸hk)
  ·rw [h5]at hk
   exact .inr (Nat.le_of_eq (Option.some.inj hk))
end Go.Proofs.YtgmangikcfakgaaGreatDoor
