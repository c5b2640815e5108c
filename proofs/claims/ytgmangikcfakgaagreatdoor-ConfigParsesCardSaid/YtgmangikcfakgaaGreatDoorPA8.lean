import Derived.Test.YtgmangikcfakgaaGreatDoorProg
import Derived.WalkKit
import Derived.WalkSpells
import Derived.WalkLawsBesides
import Derived.Deep.QuietTactic
import Derived.BigQuiet
import Derived.Deep.MidRow
import Derived.Deep.Draws
import Derived.Deep.OwnRows
import Derived.Laws.OwnMore
import Derived.Laws.CopyOwn
import Derived.Laws.AppendOwnNone
import Derived.Lib.Hide
import Derived.Test.YtgmangikcfakgaaGreatDoorRows
import Derived.ProofKit
import Derived.LaidMore
import Derived.OpenShut
import Derived.Stop.Joined
import Derived.ChangeMaps5
import Derived.Lay
import Derived.PinnedBridge
import Derived.Shelf.Strings.Builder1
import Derived.Shelf.Strings.Trim
import Derived.Shelf.Small.Utf8
import Derived.Shelf.Small.Bits
import Derived.Shelf.Small.Strs
import Derived.Shelf.Small.Wraps
import Derived.Shelf.Strings.BuilderF
import Derived.Shelf.Strings.BuilderK
import Derived.Shelf.Strings.BuilderRune
import Derived.Shelf.Utf8.AppendRune
import Derived.Shelf.Strconv.Itoa0
import Derived.Shelf.Strconv.Itoa1
import Derived.Shelf.LaysM
import Derived.Shelf.Strconv.Itoa2
import Derived.Shelf.Strconv.Itoa3
import Derived.Shelf.Strconv.Clone
import Derived.Shelf.Strconv.SyntaxError
import Derived.Shelf.LaysC
import Derived.Shelf.Strconv.ToError
import Derived.Shelf.Strconv.Lower
import Derived.Shelf.Strconv.ParseUint10
import Derived.Shelf.Strconv.ParseUint10Empty
import Derived.Shelf.Strconv.ParseUint10Any
import Derived.Shelf.Strconv.RangeError
import Derived.Shelf.Strconv.ToErrorRange
import Derived.Shelf.Strconv.ParseUintEmpty
import Derived.Shelf.Strconv.ParseUint10b64
import Derived.Shelf.Strconv.ParseUint10b32
import Derived.Shelf.Strconv.ParseUint10b16
import Derived.Shelf.Strconv.ParseUint10b8
import Derived.Shelf.Strconv.ParseUint10At
import Derived.Shelf.Strings.Search1
import Derived.Shelf.Strings.Prefix
import Derived.Shelf.Strings.Runes
import Derived.Shelf.Strings.AsciiSet
import Derived.Shelf.Unicode.DecodeSlow
import Derived.Shelf.Unicode.DecodeAny
set_option maxRecDepth 100000
set_option maxHeartbeats 40000000
namespace Go.Proofs.YtgmangikcfakgaaGreatDoor
theorem Qh {p:Prop}(h:p):Go.RowKit.Hid p:=h
open Go Go.RowKit
namespace Sh
def n8 (x:UInt8):Int:=(x.toNat:Int)
def v8 (x:UInt8):Value:= .int .u8 (n8 x)
theorem qec (x:UInt8):0≤n8 x:=by unfold n8;omega
theorem n8_lt (x:UInt8):n8 x < 256:=by unfold n8;have:=x.toBitVec.isLt;simp only [UInt8.toNat_toBitVec]at this;omega
end Sh
open Sh
def Row (w:World) (b:Nat) (t:TypeId) (L:List Value):Prop:=w.heap[b]? =some (.cells L.toArray t (0,0))
namespace Row
variable {w w':World} {b:Nat} {t:TypeId} {L:List Value}
theorem cell (h:Row w b t L) {i:Nat} {v:Value} (hi:L[i]? =some v):w.cell? ⟨b,i,none⟩=some v:=by
 unfold Row at h
 simp [World.cell?,h,hi]
theorem frozen (h:Row w b t L) (i:Nat):w.frozen? ⟨b,i,none⟩=false:=by
 unfold Row at h
 simp [World.frozen?,h]
theorem lt (h:Row w b t L):b < w.heap.size:=by
 unfold Row at h
 exact (Array.getElem?_eq_some_iff.1 h).1
theorem of_block (h:Row w b t L) (e:w'.heap[b]? =w.heap[b]?):Row w' b t L:=e.trans h
theorem below {B:Nat} (h:Row w b t L) (hb:Below B w w') (hB:b < B):Row w' b t L:=h.of_block (hb.block b hB)
theorem drewN (h:Row w b t L) (n:Nat):Row (w.drewN n) b t L:=h
theorem drew (h:Row w b t L):Row w.drew b t L:=h
theorem alloc (h:Row w b t L) (o:Obj):Row (w.alloc o) b t L:=h.of_block (Below.heap_alloc _ _ _ h.lt)
theorem new (w:World) (t:TypeId) (L:List Value):Row (w.alloc (.cells L.toArray t)) w.heap.size t L:=heap_alloc_new _ _
theorem at_ (w:World) (t:TypeId) (L:List Value) {c:Array Value} (hc:c=L.toArray) (hb:b=w.heap.size):Row (w.alloc (.cells c t)) b t L:=by
 subst hc;subst hb;exact heap_alloc_new _ _
theorem set (h:Row w b t L) (i:Nat) (v:Value):Row (w.setCell ⟨b,i,none⟩ v) b t (L.set i v):=by
 unfold Row at*
 rw [heap_setCell_same w b i L.toArray t v h]
 simp
theorem other (h:Row w b t L) {a:Addr} (ha:b≠a.block) (v:Value):Row (w.setCell a v) b t L:=h.of_block (heap_setCell_other _ _ _ _ ha)
theorem setRow (h:Row w b t L) (c:List Value):Row (w.setRow b c.toArray) b t c:=setRow_heap w b _ _ t _ h
theorem setRow_other (h:Row w b t L) {g:Nat} (hg:b≠g) (c:Array Value):Row (w.setRow g c) b t L:=h.of_block (Go.setRow_other w g b c hg)
theorem range (h:Row w b t L) (o:Nat) (cs:List Value) (hc:∀j v,cs[j]? =some v→L[o+j]? =some v):w.rangeAt b o cs:=fun j v hv=> h.cell (hc j v hv)
theorem there (h:Row w b t L) (o n:Nat) (hn:o+n≤L.length):w.there b o n:=fun j hj=> ⟨by
 rw [h.cell (List.getElem?_eq_getElem (show o+j < L.length by omega))];rfl,h.frozen _⟩
end Row
structure Kept (w w':World) (g:Nat→Prop):Prop where
 os:w'.os=w.os
 tape:w'.tape=w.tape
 output:w'.output=w.output
 size:w.heap.size≤w'.heap.size
 block:∀k,k < w.heap.size→¬g k→w'.heap[k]? =w.heap[k]?
namespace Kept
variable {w w' w'':World} {g g':Nat→Prop}
theorem refl (w:World) (g:Nat→Prop):Kept w w g:=⟨rfl,rfl,rfl,Nat.le_refl _,fun _ _ _=> rfl⟩
theorem trans (h:Kept w w' g) (k:Kept w' w'' g):Kept w w'' g:=
 ⟨k.os.trans h.os,k.tape.trans h.tape,k.output.trans h.output,Nat.le_trans h.size k.size,fun i hi hn=> (k.block i (Nat.lt_of_lt_of_le hi h.size) hn).trans (h.block i hi hn)⟩
theorem mono (h:Kept w w' g) (hg:∀k,k < w.heap.size→g k→g' k):Kept w w' g':=⟨h.os,h.tape,h.output,h.size,fun i hi hn=> h.block i hi (fun hh=> hn (hg i hi hh))⟩
theorem of_below {B:Nat} (h:Below B w w') (hB:∀k,k < w.heap.size→¬g k→k < B):Kept w w' g:=⟨h.os,h.tape,h.output,h.size,fun i hi hn=> h.block i (hB i hi hn)⟩
theorem below (h:Kept w w' g) {B:Nat} (hB:B≤w.heap.size) (hg:∀k,k < B→¬g k):Below B w w':=⟨h.os,h.tape,h.output,h.size,fun i hi=> h.block i (Nat.lt_of_lt_of_le hi hB) (hg i hi)⟩
theorem drewN (h:Kept w w' g) (n:Nat):Kept w (w'.drewN n) g:=⟨h.os,h.tape,h.output,h.size,h.block⟩
theorem alloc (h:Kept w w' g) (o:Obj):Kept w (w'.alloc o) g:=
 ⟨h.os,h.tape,h.output,Nat.le_trans h.size (by simp),fun i hi hn=> (Below.heap_alloc _ _ _ (Nat.lt_of_lt_of_le hi h.size)).trans (h.block i hi hn)⟩
theorem setCell (h:Kept w w' g) {a:Addr} (ha:w.heap.size≤a.block∨g a.block) (v:Value):Kept w (w'.setCell a v) g:=
 ⟨h.os,h.tape,h.output,by simpa [World.setCell] using h.size,fun i hi hn=> (heap_setCell_other _ _ _ _ (by
  rintro rfl;rcases ha with ha | ha
  ·omega
  ·exact hn ha)).trans (h.block i hi hn)⟩
theorem setRow (h:Kept w w' g) {b:Nat} (hb:w.heap.size≤b∨g b) (c:Array Value):Kept w (w'.setRow b c) g:=
 ⟨h.os,h.tape,h.output,by simpa using h.size,fun i hi hn=> (Go.setRow_other w' b i c (by
  rintro rfl;rcases hb with hb | hb
  ·omega
  ·exact hn hb)).trans (h.block i hi hn)⟩
theorem row (h:Kept w w' g) {b:Nat} {t:TypeId} {L:List Value} (r:Row w b t L) (hb:¬g b):Row w' b t L:=r.of_block (h.block b r.lt hb)
theorem cell (h:Kept w w' g) {a:Addr} {v:Value} (hc:w.cell? a=some v) (ha:¬g a.block):w'.cell? a=some v:=
 (World.cell?_of_block (h.block a.block (World.block_lt_of_cell? w a hc) ha)).trans hc
end Kept
theorem qaa {B:Nat} {a w:World} (h:Below B a w) (n:Nat):Below B a (w.drewN n):=⟨h.os,h.tape,h.output,h.size,h.block⟩
theorem qbl {α:Type} (f:α→Value) (hf:∀x,(f x).oneCell'=true) (l:List α):((l.map f).toArray).all (·.oneCell')=true:=
 all_oneCell_toArray (fun v hv=> by
  obtain ⟨x,_,rfl⟩:=List.mem_map.1 hv
  exact hf x)
theorem qaq {w1 w2:World} {o:Obj} (K2:Kept (w1.alloc o) w2 (·=w1.heap.size)):Kept w1 w2 (fun _=> False):=
 ⟨K2.os,K2.tape,K2.output,by have:=K2.size;simp at this;omega,fun i hi _=> (K2.block i (by simp;omega) (by omega)).trans (Below.heap_alloc _ _ _ hi)⟩
theorem qad {a b:World} (h:Below a.heap.size a b):Kept a b (fun _=> False):=Kept.of_below h (fun _ hk _=> hk)
theorem qgm (a:World) (o:Obj):Kept a (a.alloc o) (fun _=> False):=(Kept.refl a _).alloc o
theorem qbd {w w':World} {S:Nat→Prop} {b o:Nat} {cs:List Value} (h:w.rangeAt b o cs) (k:Kept w w' S) (hb:¬S b):w'.rangeAt b o cs:=fun j v hj=> k.cell (h j v hj) hb
structure BytesAt (w:World) (A:Option Addr) (n c:Nat) (bs:List UInt8):Prop where
 len:bs.length=n
 cap:n≤c
 at_:0 < n→∃b o,A=some ⟨b,o,none⟩∧b < w.heap.size∧w.rangeAt b o (bs.map v8)
theorem BytesAt.nil (w:World):BytesAt w none 0 0 []:=⟨rfl,Nat.le_refl _,fun h=> absurd h (by decide)⟩
theorem BytesAt.row {w:World} {b:Nat} {t:TypeId} {bs:List UInt8} (h:Row w b t (bs.map v8)):BytesAt w (some ⟨b,0,none⟩) bs.length bs.length bs:=
 ⟨rfl,Nat.le_refl _,fun _=> ⟨b,0,rfl,h.lt,h.range 0 _ (fun j v hj=> by rw [Nat.zero_add];exact hj)⟩⟩
theorem BytesAt.kept {w w':World} {S:Nat→Prop} {A:Option Addr} {n c:Nat} {bs:List UInt8} (h:BytesAt w A n c bs) (k:Kept w w' S) (hS:∀b o,A=some ⟨b,o,none⟩→b < w.heap.size→¬S b):BytesAt w' A n c bs:=
 ⟨h.len,h.cap,fun hn=> by
  obtain ⟨b,o,e,hlt,hr⟩:=h.at_ hn
  exact ⟨b,o,e,Nat.lt_of_lt_of_le hlt k.size,qbd hr k (hS b o e hlt)⟩⟩
theorem BytesAt.below {w w':World} {A:Option Addr} {n c:Nat} {bs:List UInt8} (h:BytesAt w A n c bs) (hb:Below w.heap.size w w'):BytesAt w' A n c bs:=
 h.kept (Kept.of_below hb (fun _ hk _=> hk):Kept w w' (fun _=> False)) (fun _ _ _ _ h=> h)
theorem infoByte:∃i,Tryz.prog.info? 5=some i∧i.zero=some (.int .u8 0)∧i.size=1∧i.bytes=1:=by
 have h:(Tryz.prog.info? 5).map (fun i=> (i.zero,i.size,i.bytes))=some (some (.int .u8 0),1,1):=by kernel_rfl
 obtain ⟨i,hi,hz⟩:=Option.map_eq_some_iff.1 h
 simp only [Prod.mk.injEq]at hz
 exact ⟨i,hi,hz.1,hz.2.1,hz.2.2⟩
def OwnBytes (w:World) (B:Nat) (v:Value) (bs:List UInt8):Prop:=w.ownsRow B 5 1 v bs.length (bs.map v8)
theorem OwnBytes.nil (w:World) (B:Nat):OwnBytes w B (.slice none 0 0) []:=⟨rfl, .inl ⟨rfl,rfl⟩⟩
theorem OwnBytes.row {w:World} {B b:Nat} {bs:List UInt8} (h:Row w b 5 (bs.map v8)) (hb:B≤b) (hm:bs.length≤maxLen):OwnBytes w B (.slice (some ⟨b,0,none⟩) bs.length bs.length) bs:=
 ⟨by simp, .inr ⟨b,bs.length,(bs.map v8).toArray,rfl,hb,h,Nat.le_refl _,hm,by simp,by simp [List.take_of_length_le]⟩⟩
theorem OwnBytes.bytes {w:World} {B:Nat} {v:Value} {bs:List UInt8} (h:OwnBytes w B v bs):∃(A:Option Addr) (c:Nat),v= .slice A bs.length c∧BytesAt w A bs.length c bs∧(A=none→c=0)∧(∀b o,A=some ⟨b,o,none⟩→B≤b∧v.ownBlock=some b):=by
 obtain ⟨hl,⟨rfl,h0⟩ | ⟨g,cap,cur,rfl,hg,hh,hn,hc,hs,ht⟩⟩:=h
 ·have:bs=[]:=List.eq_nil_of_length_eq_zero h0
  subst this;exact ⟨none,0,rfl,BytesAt.nil w,fun _=> rfl,fun b o e=> by cases e⟩
 ·refine ⟨some ⟨g,0,none⟩,cap,rfl,⟨rfl,hn,fun _=> ⟨g,0,rfl,(Array.getElem?_eq_some_iff.1 hh).1,fun j u hj=> ?_⟩⟩,(fun e=> by cases e),fun b o e=> ?_⟩
  ·rw [cell_of_row _ _ _ _ _ _ hh,Nat.zero_add,←hj,←ht,Nat.mul_one,List.getElem?_take,if_pos (by
    have:=(List.getElem?_eq_some_iff.1 hj).1
    simpa using this)]
   simp
  ·simp only [Option.some.injEq,Addr.mk.injEq]at e
   exact ⟨by omega,by rw [←e.1];rfl⟩
theorem OwnBytes.kept {w w':World} {S:Nat→Prop} {B:Nat} {v:Value} {bs:List UInt8} (h:OwnBytes w B v bs) (k:Kept w w' S) (hS:∀b,v.ownBlock=some b→¬S b):OwnBytes w' B v bs:=by
 obtain ⟨hl,h1 | ⟨g,cap,cur,rfl,hg,hh,hn,hc,hs,ht⟩⟩:=h
 ·exact ⟨hl, .inl h1⟩
 ·exact ⟨hl, .inr ⟨g,cap,cur,rfl,hg,(k.block g (Array.getElem?_eq_some_iff.1 hh).1 (hS g rfl)).trans hh,hn,hc,hs,ht⟩⟩
theorem BytesAt.const (w:World) (bs:List UInt8) (e:TypeId) (fr:Nat×Nat) {C:Array Value} (hC:C=(bs.map v8).toArray) {n:Nat} (hn:bs.length=n):BytesAt (w.alloc (.cells C e fr)) (some ⟨w.heap.size,0,none⟩) n n bs:=by
 subst hC
 subst hn
 refine ⟨rfl,Nat.le_refl _,fun _=> ⟨_,_,rfl,by simp,fun j v hj=> ?_⟩⟩
 rw [cell_of_row _ _ _ _ _ _ (heap_alloc_new w _),Nat.zero_add]
 simpa using hj
theorem fold_push' (bs:List UInt8):∀r:ByteArray,(bs.map n8).foldl (fun r n=> r.push (UInt8.ofNat n.toNat)) r=⟨r.data++bs.toArray⟩:=by
 induction bs with
 | nil=> intro r;simp
 | cons x l ih=>
  intro r;rw [List.map_cons,List.foldl_cons,ih];congr 1
  rw [show UInt8.ofNat (n8 x).toNat=x from by rw [n8,Int.toNat_natCast,UInt8.ofNat_toNat]];simp [ByteArray.push]
theorem qel (w:World) (A:Option Addr) (n c:Nat) (bs:List UInt8) (S:BytesAt w A n c bs):
  (convert 22 9 (.slice A n c)).run Tryz.prog w= .ok (.string ⟨bs.toArray⟩) w:=by
 rw [run_convert_bytes_string w _ _ _ _ _ _ Tryz.underlying22 Tryz.underlying5 Tryz.underlying9]
 have hlen:=S.len
 cases A with
 | none=>
  have hn:n=0:=by
   rcases Nat.eq_zero_or_pos n with h | h
   ·exact h
   ·obtain ⟨b,o,e,_⟩:=S.at_ h
    cases e
  subst hn;have hb:bs=[]:=List.eq_nil_of_length_eq_zero hlen
  subst hb;rfl
 | some ad=>
  subst hlen;have hl:=run_loadCells_list (P:=Tryz.prog) w ad (bs.map v8) (fun j v hj=> by
   have hjl:j < bs.length:=by simpa using (List.getElem?_eq_some_iff.1 hj).1
   obtain ⟨b,o,e,_,hr⟩:=S.at_ (by omega)
   cases e
   rw [Addr.add_mid];exact hr j v hj)
  rw [List.length_map]at hl
  have e:bs.map v8=(bs.map n8).map (Value.int .u8):=by rw [List.map_map];rfl
  rw [e]at hl
  rw [run_bytesToString w ad bs.length c (bs.map n8) hl,fold_push'];simp
end Go.Proofs.YtgmangikcfakgaaGreatDoor
namespace Go.Proofs.YtgmangikcfakgaaGreatDoor
open Go.ChangeShapes Go.WideShapes Go.ChangeAt Go.WideMaps Go.WideElems Go.RowKit Go.Deep Sh
theorem qov:ownKnob Tryz.prog.godebug=none:=by kernel_rfl
theorem qs8:laidOutB Tryz.prog=true:=by kernel_rfl
theorem cells1:Tryz.prog.cellsOf 5=1:=by kernel_rfl
theorem qri {H:Type} {enc:TypeId×Value→H} {W:World} {base:Nat} {v:Value} {d:DataW H} {p:List MemPlace} (hv:Value.okWide Tryz.prog W .any base 22 v)
  (h:DataW.Trod enc Tryz.prog W 0 (fun _=> true) true 22 v d p):∃(A:Option Addr) (c:Nat) (bs:List UInt8),v= .slice A bs.length c∧BytesAt W A bs.length c bs∧c≤maxLen∧(A=none→c=0):=by
 obtain ⟨a0,len,cap,rfl⟩:=okWide_slice Tryz.underlying22 hv
 obtain ⟨fuel,hf⟩:=h
 rcases open_ints Tryz.underlying22 Tryz.underlying5 cells1 hf with ⟨hcs,_⟩ | ⟨a,len',cap',zs,hcs,_,hl,hm,hz,_,hcell,hwz⟩
 ·simp [Value.cells]at hcs
  obtain ⟨rfl,rfl,rfl⟩:=hcs
  exact ⟨none,0,[],rfl,BytesAt.nil W,Nat.zero_le _,fun _=> rfl⟩
 ·simp [Value.cells]at hcs
  obtain ⟨rfl,rfl,rfl⟩:=hcs
  simp only [if_true]at hz
  have hlen:((zs.take len).map fun z=> UInt8.ofNat z.toNat).length=len:=by rw [List.length_map,List.length_take];omega
  refine ⟨some a,cap,(zs.take len).map fun z=> UInt8.ofNat z.toNat,by rw [hlen],⟨rfl,by rw [hlen];exact hl,fun hpos=> ?_⟩,hm,fun e=> by cases e⟩
  rw [hlen]at hpos
  obtain ⟨b,off,rfl,hc⟩:=ints_at hcell (by omega)
  refine ⟨b,off,rfl,World.block_lt_of_cell? W _ (hc 0 (by omega)),fun j u hj=> ?_⟩
  have hjl:j < len:=by
   have:=(List.getElem?_eq_some_iff.1 hj).1
   rw [List.length_map,hlen]at this
   exact this
  have hjz:j < zs.length:=by omega
  rw [hc j hjz,←hj];have hw:=hwz (zs[j]) (List.getElem_mem hjz)
  have hb:0≤zs[j]∧zs[j] < 256:=by
   simp [Lit.wf,IntKind.min,IntKind.max,IntKind.signed,IntKind.bits]at hw
   omega
  have e:n8 (UInt8.ofNat zs[j].toNat)=zs[j]:=by
   unfold n8;rw [UInt8.toNat_ofNat'];omega
  simp [List.getD,hjz,hjl,v8,e]
variable {H:Type} {enc:TypeId×Value→H} {P:Program} {w:World} {base:Nat} {spare:Nat→Bool} {held:Bool}
end Go.Proofs.YtgmangikcfakgaaGreatDoor
namespace Go.Proofs
open Go.Shelf
def Tryz.lays169_ren:Go.Shelf.Ren:=⟨fun | 169=> 58 | n=> n,fun | 70=> 76 | 9=> 9 | 0=> 0 | 72=> 78 | 37=> 22 | 127=> 112 | 3=> 3 | 5=> 5 | n=> n,fun | n=> n⟩
theorem Tryz.lays169:Go.Proofs.Lays.n169 Tryz.prog Tryz.lays169_ren:= {
 mixed:=by kernel_rfl
 f169:=Tryz.func58.trans (congrArg some (by kernel_rfl))
 t0:=Tryz.underlying0
 a0:=Tryz.isAgg0
 z0:=Tryz.sizeOf0
 v0:=Tryz.zeroValue0
 t3:=Tryz.underlying3
 a3:=Tryz.isAgg3
 z3:=Tryz.sizeOf3
 v3:=Tryz.zeroValue3
 t9:=Tryz.underlying9
 a9:=Tryz.isAgg9
 z9:=Tryz.sizeOf9
 v9:=Tryz.zeroValue9
 t37:=Tryz.underlying22
 a37:=Tryz.isAgg22
 z37:=Tryz.sizeOf22
 v37:=Tryz.zeroValue22
 t70:=Tryz.underlying76
 a70:=Tryz.isAgg76
 z70:=Tryz.sizeOf76
 v70:=Tryz.zeroValue76
 t72:=Tryz.underlying78
 a72:=Tryz.isAgg78
 z72:=Tryz.sizeOf78
 v72:=Tryz.zeroValue78
 t127:=Tryz.underlying112
 a127:=Tryz.isAgg112
 z127:=Tryz.sizeOf112
 v127:=Tryz.zeroValue112}
theorem Tryz.Builder_Extra_169:Builder.Extra Tryz.prog Tryz.lays169_ren:= {
 sizeBuilder:=by kernel_rfl
 liesBuilder:=by kernel_rfl
 t5:=Tryz.underlying5
 a5:=Tryz.isAgg5
 z5:=Tryz.sizeOf5
 v5:=Tryz.zeroValue5
 infoByte:=by kernel_rfl
 cellsByte:=by kernel_rfl
 sizeByte:=by kernel_rfl
 neB5:=by decide}
def Tryz.lays161_ren:Go.Shelf.Ren:=⟨fun | 161=> 95 | 231=> 133 | 227=> 134 | 233=> 135 | 235=> 136 | 228=> 168 | 197=> 169 | 151=> 170 | 260=> 191 | 152=> 144 | 137=> 138 | 119=> 174 | 224=> 175 | 225=> 176 | 217=> 172 | 266=> 193 | n=> n,fun | 9=> 9 | 4=> 4 | 3=> 3 | 5=> 5 | 117=> 154 | 116=> 153 | 0=> 0 | 124=> 157 | 105=> 185 | 21=> 21 | 119=> 193 | 46=> 141 | 139=> 196 | 138=> 195 | n=> n,fun | 3=> 2 | 4=> 3 | n=> n⟩
theorem Tryz.lays161:Go.Proofs.Lays.n161 Tryz.prog Tryz.lays161_ren:= {
 mixed:=by kernel_rfl
 f119:=Tryz.func174.trans (congrArg some (by kernel_rfl))
 f137:=Tryz.func138.trans (congrArg some (by kernel_rfl))
 f151:=Tryz.func170.trans (congrArg some (by kernel_rfl))
 f152:=Tryz.func144.trans (congrArg some (by kernel_rfl))
 f161:=Tryz.func95.trans (congrArg some (by kernel_rfl))
 f197:=Tryz.func169.trans (congrArg some (by kernel_rfl))
 f217:=Tryz.func172.trans (congrArg some (by kernel_rfl))
 f224:=Tryz.func175.trans (congrArg some (by kernel_rfl))
 f225:=Tryz.func176.trans (congrArg some (by kernel_rfl))
 f227:=Tryz.func134.trans (congrArg some (by kernel_rfl))
 f228:=Tryz.func168.trans (congrArg some (by kernel_rfl))
 f231:=Tryz.func133.trans (congrArg some (by kernel_rfl))
 f233:=Tryz.func135.trans (congrArg some (by kernel_rfl))
 f235:=Tryz.func136.trans (congrArg some (by kernel_rfl))
 f260:=Tryz.func191.trans (congrArg some (by kernel_rfl))
 f266:=Tryz.func193.trans (congrArg some (by kernel_rfl))
 t0:=Tryz.underlying0
 a0:=Tryz.isAgg0
 z0:=Tryz.sizeOf0
 v0:=Tryz.zeroValue0
 t3:=Tryz.underlying3
 a3:=Tryz.isAgg3
 z3:=Tryz.sizeOf3
 v3:=Tryz.zeroValue3
 t4:=Tryz.underlying4
 a4:=Tryz.isAgg4
 z4:=Tryz.sizeOf4
 v4:=Tryz.zeroValue4
 t5:=Tryz.underlying5
 a5:=Tryz.isAgg5
 z5:=Tryz.sizeOf5
 v5:=Tryz.zeroValue5
 t9:=Tryz.underlying9
 a9:=Tryz.isAgg9
 z9:=Tryz.sizeOf9
 v9:=Tryz.zeroValue9
 t21:=Tryz.underlying21
 a21:=Tryz.isAgg21
 z21:=Tryz.sizeOf21
 v21:=Tryz.zeroValue21
 t46:=Tryz.underlying141
 a46:=Tryz.isAgg141
 z46:=Tryz.sizeOf141
 v46:=Tryz.zeroValue141
 t105:=Tryz.underlying185
 a105:=Tryz.isAgg185
 z105:=Tryz.sizeOf185
 v105:=Tryz.zeroValue185
 t116:=Tryz.underlying153
 a116:=Tryz.isAgg153
 z116:=Tryz.sizeOf153
 t117:=Tryz.underlying154
 a117:=Tryz.isAgg154
 z117:=Tryz.sizeOf154
 v117:=Tryz.zeroValue154
 t119:=Tryz.underlying193
 a119:=Tryz.isAgg193
 z119:=Tryz.sizeOf193
 t124:=Tryz.underlying157
 a124:=Tryz.isAgg157
 z124:=Tryz.sizeOf157
 v124:=Tryz.zeroValue157
 t138:=Tryz.underlying195
 a138:=Tryz.isAgg195
 z138:=Tryz.sizeOf195
 v138:=Tryz.zeroValue195
 t139:=Tryz.underlying196
 a139:=Tryz.isAgg196
 z139:=Tryz.sizeOf196
 v139:=Tryz.zeroValue196
 g3:=by kernel_rfl
 g4:=by kernel_rfl}
def Tryz.lays119_ren:Go.Shelf.Ren:=⟨fun | 119=> 174 | n=> n,fun | 21=> 21 | 4=> 4 | n=> n,fun | n=> n⟩
theorem Tryz.lays119:Go.Proofs.Lays.n119 Tryz.prog Tryz.lays119_ren:= {
 mixed:=by kernel_rfl
 f119:=Tryz.func174.trans (congrArg some (by kernel_rfl))
 t4:=Tryz.underlying4
 a4:=Tryz.isAgg4
 z4:=Tryz.sizeOf4
 v4:=Tryz.zeroValue4
 t21:=Tryz.underlying21
 a21:=Tryz.isAgg21
 z21:=Tryz.sizeOf21
 v21:=Tryz.zeroValue21}
theorem Tryz.utf8_ValidRune (r:Int) (w:World):
  Calls Tryz.prog 174 #[.int .i32 r] w fun e w'=> e= .returned (.bool (Lib.validRune r))∧w'=w:=Any.utf8_ValidRune Tryz.lays119 r w
def Tryz.lays106_ren:Go.Shelf.Ren:=⟨fun | 106=> 88 | 213=> 124 | 265=> 164 | n=> n,fun | 9=> 9 | 3=> 3 | n=> n,fun | n=> n⟩
theorem Tryz.lays106:Go.Proofs.Lays.n106 Tryz.prog Tryz.lays106_ren:= {
 mixed:=by kernel_rfl
 f106:=Tryz.func88.trans (congrArg some (by kernel_rfl))
 f213:=Tryz.func124.trans (congrArg some (by kernel_rfl))
 f265:=Tryz.func164.trans (congrArg some (by kernel_rfl))
 t3:=Tryz.underlying3
 a3:=Tryz.isAgg3
 z3:=Tryz.sizeOf3
 v3:=Tryz.zeroValue3
 t9:=Tryz.underlying9
 a9:=Tryz.isAgg9
 z9:=Tryz.sizeOf9
 v9:=Tryz.zeroValue9}
open Go.RowKit in
theorem Tryz.strings_Compare (a b:ByteArray) (w:World):
  Calls Tryz.prog 88 #[.string a, .string b] w fun e w'=> e= .returned (.int .i64 (Lib.compareBytes a.data.toList b.data.toList))∧w'=w:=Any.strings_Compare Tryz.lays106 a b w
def Tryz.lays137_ren:Go.Shelf.Ren:=⟨fun | 137=> 138 | 217=> 172 | 266=> 193 | n=> n,fun | 9=> 9 | 5=> 5 | 3=> 3 | n=> n,fun | n=> n⟩
theorem Tryz.lays137:Go.Proofs.Lays.n137 Tryz.prog Tryz.lays137_ren:= {
 mixed:=by kernel_rfl
 f137:=Tryz.func138.trans (congrArg some (by kernel_rfl))
 f217:=Tryz.func172.trans (congrArg some (by kernel_rfl))
 f266:=Tryz.func193.trans (congrArg some (by kernel_rfl))
 t3:=Tryz.underlying3
 a3:=Tryz.isAgg3
 z3:=Tryz.sizeOf3
 v3:=Tryz.zeroValue3
 t5:=Tryz.underlying5
 a5:=Tryz.isAgg5
 z5:=Tryz.sizeOf5
 v5:=Tryz.zeroValue5
 t9:=Tryz.underlying9
 a9:=Tryz.isAgg9
 z9:=Tryz.sizeOf9
 v9:=Tryz.zeroValue9}
open Go.RowKit in
theorem Tryz.strings_IndexByte (s:ByteArray) (c:Int) (w:World):
  Calls Tryz.prog 138 #[.string s, .int .u8 c] w fun e w'=> e= .returned (.int .i64 (Lib.indexByte s.data.toList c.toNat.toUInt8))∧w'=w:=Any.strings_IndexByte Tryz.lays137 s c w
def Tryz.lays103_ren:Go.Shelf.Ren:=⟨fun | 103=> 137 | 210=> 171 | 206=> 192 | n=> n,fun | 9=> 9 | 4=> 4 | 24=> 118 | 3=> 3 | n=> n,fun | n=> n⟩
theorem Tryz.lays103:Go.Proofs.Lays.n103 Tryz.prog Tryz.lays103_ren:= {
 mixed:=by kernel_rfl
 f103:=Tryz.func137.trans (congrArg some (by kernel_rfl))
 f206:=Tryz.func192.trans (congrArg some (by kernel_rfl))
 f210:=Tryz.func171.trans (congrArg some (by kernel_rfl))
 t3:=Tryz.underlying3
 a3:=Tryz.isAgg3
 z3:=Tryz.sizeOf3
 v3:=Tryz.zeroValue3
 t4:=Tryz.underlying4
 a4:=Tryz.isAgg4
 z4:=Tryz.sizeOf4
 v4:=Tryz.zeroValue4
 t9:=Tryz.underlying9
 a9:=Tryz.isAgg9
 z9:=Tryz.sizeOf9
 v9:=Tryz.zeroValue9
 t24:=Tryz.underlying118
 a24:=Tryz.isAgg118
 z24:=Tryz.sizeOf118
 v24:=Tryz.zeroValue118}
open Go.RowKit in
theorem Tryz.strings_CutPrefix (s p:ByteArray) (w:World):
  Calls Tryz.prog 137 #[.string s, .string p] w fun e w'=> e= .returned (.tuple #[.string ⟨(Lib.trimPrefix s.data.toList p.data.toList).toArray⟩, .bool (Lib.hasPrefix s.data.toList p.data.toList)])∧w'=w:=Any.strings_CutPrefix Tryz.lays103 s p w
open Go.RowKit in
theorem Tryz.Builder_String_any_k (B b:Nat) (l:List UInt8) (w:World) (h:Lib.IsBuilderF 78 5 B b (Lib.byteCells l) w) (hBw:B≤w.heap.size):
  Calls Tryz.prog 58 #[.pointer (some ⟨b,0,none⟩)] w fun e w'=> e= .returned (.string ⟨l.toArray⟩)∧(Lib.IsBuilderF 78 5 B b (Lib.byteCells l) w'∧Below B w w'∧Lib.OthersKept 5 (some b) w w'):=Any.Builder_String_any_k Tryz.lays169 Tryz.Builder_Extra_169 B b l w h hBw
def Tryz.laysM316_ren:Go.Shelf.Ren:=⟨fun | 316=> 189 | n=> n,fun | 9=> 9 | 3=> 3 | 4=> 4 | 37=> 22 | 0=> 0 | 127=> 112 | 5=> 5 | n=> n,fun | n=> n⟩
theorem Tryz.laysM316:Go.Proofs.LaysM.n316 Tryz.prog Tryz.laysM316_ren:= {
 mixed:=by kernel_rfl
 f316:=Tryz.func189.trans (congrArg some (by kernel_rfl))
 t0:=Tryz.underlying0
 a0:=Tryz.isAgg0
 z0:=Tryz.sizeOf0
 v0:=Tryz.zeroValue0
 t3:=Tryz.underlying3
 a3:=Tryz.isAgg3
 z3:=Tryz.sizeOf3
 v3:=Tryz.zeroValue3
 t4:=Tryz.underlying4
 a4:=Tryz.isAgg4
 z4:=Tryz.sizeOf4
 v4:=Tryz.zeroValue4
 t9:=Tryz.underlying9
 a9:=Tryz.isAgg9
 z9:=Tryz.sizeOf9
 v9:=Tryz.zeroValue9
 t37:=Tryz.underlying22
 a37:=Tryz.isAgg22
 z37:=Tryz.sizeOf22
 v37:=Tryz.zeroValue22
 t127:=Tryz.underlying112
 a127:=Tryz.isAgg112
 z127:=Tryz.sizeOf112
 v127:=Tryz.zeroValue112
 t5:=Tryz.underlying5
 a5:=Tryz.isAgg5
 z5:=Tryz.sizeOf5
 v5:=Tryz.zeroValue5
 i0:=by kernel_rfl
 i3:=by kernel_rfl
 i4:=by kernel_rfl
 i5:=by kernel_rfl
 i9:=by kernel_rfl
 i37:=by kernel_rfl
 i127:=by kernel_rfl}
open Go.RowKit in
theorem Tryz.stringslite_Clone (s:ByteArray) (w:World) (hlim:s.size≤281474976710656):
  Calls Tryz.prog 189 #[.string s] w fun e w'=> e= .returned (.string s)∧Below w.heap.size w w':=Any.stringslite_Clone Tryz.laysM316 s w hlim
def Tryz.laysC245_ren:Go.Shelf.Ren:=⟨fun | 245=> 201 | 279=> 204 | 280=> 205 | 281=> 206 | 282=> 207 | 316=> 189 | 171=> 209 | 205=> 208 | 243=> 210 | 246=> 211 | 283=> 212 | 284=> 213 | 285=> 214 | 286=> 215 | 129=> 163 | 317=> 216 | 318=> 217 | 319=> 218 | 320=> 219 | 337=> 220 | 338=> 221 | n=> n,fun | 9=> 9 | 3=> 3 | 75=> 80 | 167=> 214 | 4=> 4 | 168=> 216 | 210=> 220 | 37=> 22 | 0=> 0 | 127=> 112 | 145=> 224 | 143=> 222 | 2=> 2 | 171=> 226 | 53=> 182 | 5=> 5 | 173=> 228 | 212=> 231 | 51=> 144 | 20=> 20 | 213=> 232 | 46=> 141 | 232=> 51 | 233=> 168 | 80=> 83 | n=> n,fun | 15=> 4 | 16=> 5 | 17=> 6 | 18=> 7 | 19=> 8 | n=> n⟩
theorem Tryz.laysC245:Go.Proofs.LaysC.n245 Tryz.prog Tryz.laysC245_ren:= {
 mixed:=by kernel_rfl
 f129:=Tryz.func163.trans (congrArg some (by kernel_rfl))
 f171:=Tryz.func209.trans (congrArg some (by kernel_rfl))
 f205:=Tryz.func208.trans (congrArg some (by kernel_rfl))
 f243:=Tryz.func210.trans (congrArg some (by kernel_rfl))
 f245:=Tryz.func201.trans (congrArg some (by kernel_rfl))
 f246:=Tryz.func211.trans (congrArg some (by kernel_rfl))
 f279:=Tryz.func204.trans (congrArg some (by kernel_rfl))
 f280:=Tryz.func205.trans (congrArg some (by kernel_rfl))
 f281:=Tryz.func206.trans (congrArg some (by kernel_rfl))
 f282:=Tryz.func207.trans (congrArg some (by kernel_rfl))
 f283:=Tryz.func212.trans (congrArg some (by kernel_rfl))
 f284:=Tryz.func213.trans (congrArg some (by kernel_rfl))
 f285:=Tryz.func214.trans (congrArg some (by kernel_rfl))
 f286:=Tryz.func215.trans (congrArg some (by kernel_rfl))
 f316:=Tryz.func189.trans (congrArg some (by kernel_rfl))
 f317:=Tryz.func216.trans (congrArg some (by kernel_rfl))
 f318:=Tryz.func217.trans (congrArg some (by kernel_rfl))
 f319:=Tryz.func218.trans (congrArg some (by kernel_rfl))
 f320:=Tryz.func219.trans (congrArg some (by kernel_rfl))
 f337:=Tryz.func220.trans (congrArg some (by kernel_rfl))
 f338:=Tryz.func221.trans (congrArg some (by kernel_rfl))
 t0:=Tryz.underlying0
 a0:=Tryz.isAgg0
 z0:=Tryz.sizeOf0
 v0:=Tryz.zeroValue0
 t2:=Tryz.underlying2
 a2:=Tryz.isAgg2
 z2:=Tryz.sizeOf2
 v2:=Tryz.zeroValue2
 t3:=Tryz.underlying3
 a3:=Tryz.isAgg3
 z3:=Tryz.sizeOf3
 v3:=Tryz.zeroValue3
 t4:=Tryz.underlying4
 a4:=Tryz.isAgg4
 z4:=Tryz.sizeOf4
 v4:=Tryz.zeroValue4
 t5:=Tryz.underlying5
 a5:=Tryz.isAgg5
 z5:=Tryz.sizeOf5
 v5:=Tryz.zeroValue5
 t9:=Tryz.underlying9
 a9:=Tryz.isAgg9
 z9:=Tryz.sizeOf9
 v9:=Tryz.zeroValue9
 t20:=Tryz.underlying20
 a20:=Tryz.isAgg20
 z20:=Tryz.sizeOf20
 v20:=Tryz.zeroValue20
 t37:=Tryz.underlying22
 a37:=Tryz.isAgg22
 z37:=Tryz.sizeOf22
 v37:=Tryz.zeroValue22
 t46:=Tryz.underlying141
 a46:=Tryz.isAgg141
 z46:=Tryz.sizeOf141
 v46:=Tryz.zeroValue141
 t51:=Tryz.underlying144
 a51:=Tryz.isAgg144
 z51:=Tryz.sizeOf144
 v51:=Tryz.zeroValue144
 t53:=Tryz.underlying182
 a53:=Tryz.isAgg182
 z53:=Tryz.sizeOf182
 v53:=Tryz.zeroValue182
 t75:=Tryz.underlying80
 a75:=Tryz.isAgg80
 z75:=Tryz.sizeOf80
 v75:=Tryz.zeroValue80
 t127:=Tryz.underlying112
 a127:=Tryz.isAgg112
 z127:=Tryz.sizeOf112
 v127:=Tryz.zeroValue112
 t143:=Tryz.underlying222
 a143:=Tryz.isAgg222
 z143:=Tryz.sizeOf222
 v143:=Tryz.zeroValue222
 t145:=Tryz.underlying224
 a145:=Tryz.isAgg224
 z145:=Tryz.sizeOf224
 v145:=Tryz.zeroValue224
 t167:=Tryz.underlying214
 a167:=Tryz.isAgg214
 z167:=Tryz.sizeOf214
 v167:=Tryz.zeroValue214
 t168:=Tryz.underlying216
 a168:=Tryz.isAgg216
 z168:=Tryz.sizeOf216
 v168:=Tryz.zeroValue216
 t171:=Tryz.underlying226
 a171:=Tryz.isAgg226
 z171:=Tryz.sizeOf226
 v171:=Tryz.zeroValue226
 t173:=Tryz.underlying228
 a173:=Tryz.isAgg228
 z173:=Tryz.sizeOf228
 v173:=Tryz.zeroValue228
 t210:=Tryz.underlying220
 a210:=Tryz.isAgg220
 z210:=Tryz.sizeOf220
 v210:=Tryz.zeroValue220
 t212:=Tryz.underlying231
 a212:=Tryz.isAgg231
 z212:=Tryz.sizeOf231
 v212:=Tryz.zeroValue231
 t213:=Tryz.underlying232
 a213:=Tryz.isAgg232
 z213:=Tryz.sizeOf232
 t232:=Tryz.underlying51
 a232:=Tryz.isAgg51
 z232:=Tryz.sizeOf51
 v232:=Tryz.zeroValue51
 t233:=Tryz.underlying168
 a233:=Tryz.isAgg168
 z233:=Tryz.sizeOf168
 v233:=Tryz.zeroValue168
 g15:=by kernel_rfl
 g16:=by kernel_rfl
 g17:=by kernel_rfl
 g18:=by kernel_rfl
 g19:=by kernel_rfl
 t80:=Tryz.underlying83
 a80:=Tryz.isAgg83
 z80:=Tryz.sizeOf83
 v80:=Tryz.zeroValue83
 i0:=by kernel_rfl
 i2:=by kernel_rfl
 i3:=by kernel_rfl
 i4:=by kernel_rfl
 i5:=by kernel_rfl
 i9:=by kernel_rfl
 i20:=by kernel_rfl
 i37:=by kernel_rfl
 i46:=by kernel_rfl
 i51:=by kernel_rfl
 i53:=by kernel_rfl
 i75:=by kernel_rfl
 i80:=by kernel_rfl
 i127:=by kernel_rfl
 i143:=by kernel_rfl
 i145:=by kernel_rfl
 i167:=by kernel_rfl
 i168:=by kernel_rfl
 i171:=by kernel_rfl
 i173:=by kernel_rfl
 i210:=by kernel_rfl
 i212:=by kernel_rfl
 i232:=by kernel_rfl
 i233:=by kernel_rfl
 m15:=by kernel_rfl
 m16:=by kernel_rfl
 m17:=by kernel_rfl
 m18:=by kernel_rfl
 m19:=by kernel_rfl
 c0:=by kernel_rfl
 c2:=by kernel_rfl
 c3:=by kernel_rfl
 c4:=by kernel_rfl
 c5:=by kernel_rfl
 c9:=by kernel_rfl
 c20:=by kernel_rfl
 c37:=by kernel_rfl
 c46:=by kernel_rfl
 c51:=by kernel_rfl
 c53:=by kernel_rfl
 c75:=by kernel_rfl
 c80:=by kernel_rfl
 c127:=by kernel_rfl
 c143:=by kernel_rfl
 c145:=by kernel_rfl
 c167:=by kernel_rfl
 c168:=by kernel_rfl
 c171:=by kernel_rfl
 c173:=by kernel_rfl
 c210:=by kernel_rfl
 c212:=by kernel_rfl
 c213:=by kernel_rfl
 c232:=by kernel_rfl
 c233:=by kernel_rfl}
open Go.RowKit in
theorem Tryz.strconv_toError_syntax (fn s:ByteArray) (base bits:Int) (ev:Value) (w:World) (hlim:s.size≤281474976710656) (hv:w.cell? ⟨4,0,none⟩=some ev) (hev:ev= .nilIface∨∃te pe,ev= .iface te pe):
  Calls Tryz.prog 201 #[.string fn, .string s, .int .i64 base, .int .i64 bits, .iface 214 (.int .i64 2)] w fun e w'=> ∃N,e= .returned (.iface 216 (.pointer (some ⟨N,0,none⟩)))∧w.heap.size≤N∧w'.heap[N]? =some (.cells #[.string fn, .string s,ev] 220 (0,0))∧Below w.heap.size w w':=Any.strconv_toError_syntax Tryz.laysC245 fn s base bits ev w hlim hv hev
def Tryz.lays321_ren:Go.Shelf.Ren:=⟨fun | 321=> 202 | n=> n,fun | 5=> 5 | n=> n,fun | n=> n⟩
theorem Tryz.lays321:Go.Proofs.Lays.n321 Tryz.prog Tryz.lays321_ren:= {
 mixed:=by kernel_rfl
 f321:=Tryz.func202.trans (congrArg some (by kernel_rfl))
 t5:=Tryz.underlying5
 a5:=Tryz.isAgg5
 z5:=Tryz.sizeOf5
 v5:=Tryz.zeroValue5}
open Go.RowKit in
theorem Tryz.internal_strconv_lower (c:Int) (w:World):
  Calls Tryz.prog 202 #[.int .u8 c] w fun e w'=> e= .returned (.int .u8 (bits .or .u8 c 32))∧w'=w:=Any.internal_strconv_lower Tryz.lays321 c w
def Tryz.lays99_ren:Go.Shelf.Ren:=⟨fun | 99=> 180 | 206=> 192 | n=> n,fun | 9=> 9 | 4=> 4 | 3=> 3 | n=> n,fun | n=> n⟩
theorem Tryz.lays99:Go.Proofs.Lays.n99 Tryz.prog Tryz.lays99_ren:= {
 mixed:=by kernel_rfl
 f99:=Tryz.func180.trans (congrArg some (by kernel_rfl))
 f206:=Tryz.func192.trans (congrArg some (by kernel_rfl))
 t3:=Tryz.underlying3
 a3:=Tryz.isAgg3
 z3:=Tryz.sizeOf3
 v3:=Tryz.zeroValue3
 t4:=Tryz.underlying4
 a4:=Tryz.isAgg4
 z4:=Tryz.sizeOf4
 v4:=Tryz.zeroValue4
 t9:=Tryz.underlying9
 a9:=Tryz.isAgg9
 z9:=Tryz.sizeOf9
 v9:=Tryz.zeroValue9}
open Go.RowKit Go.Lib in
theorem Tryz.strings_HasPrefix (s p:ByteArray) (w:World):
  Calls Tryz.prog 180 #[.string s, .string p] w fun e w'=> e= .returned (.bool (Lib.hasPrefix s.data.toList p.data.toList))∧w'=w:=Any.strings_HasPrefix Tryz.lays99 s p w
def Tryz.lays101_ren:Go.Shelf.Ren:=⟨fun | 101=> 178 | 208=> 195 | 206=> 192 | n=> n,fun | 9=> 9 | 4=> 4 | 3=> 3 | n=> n,fun | n=> n⟩
theorem Tryz.lays101:Go.Proofs.Lays.n101 Tryz.prog Tryz.lays101_ren:= {
 mixed:=by kernel_rfl
 f101:=Tryz.func178.trans (congrArg some (by kernel_rfl))
 f206:=Tryz.func192.trans (congrArg some (by kernel_rfl))
 f208:=Tryz.func195.trans (congrArg some (by kernel_rfl))
 t3:=Tryz.underlying3
 a3:=Tryz.isAgg3
 z3:=Tryz.sizeOf3
 v3:=Tryz.zeroValue3
 t4:=Tryz.underlying4
 a4:=Tryz.isAgg4
 z4:=Tryz.sizeOf4
 v4:=Tryz.zeroValue4
 t9:=Tryz.underlying9
 a9:=Tryz.isAgg9
 z9:=Tryz.sizeOf9
 v9:=Tryz.zeroValue9}
open Go.RowKit Go.Lib in
theorem Tryz.strings_TrimPrefix (s p:ByteArray) (w:World):
  Calls Tryz.prog 178 #[.string s, .string p] w fun e w'=> e= .returned (.string ⟨(Lib.trimPrefix s.data.toList p.data.toList).toArray⟩)∧w'=w:=Any.strings_TrimPrefix Tryz.lays101 s p w
def Tryz.lays152_ren:Go.Shelf.Ren:=⟨fun | 152=> 144 | 137=> 138 | 119=> 174 | 224=> 175 | 225=> 176 | 217=> 172 | 266=> 193 | n=> n,fun | 9=> 9 | 21=> 21 | 3=> 3 | 4=> 4 | 5=> 5 | 0=> 0 | 46=> 141 | n=> n,fun | n=> n⟩
theorem Tryz.lays152:Go.Proofs.Lays.n152 Tryz.prog Tryz.lays152_ren:= {
 mixed:=by kernel_rfl
 f119:=Tryz.func174.trans (congrArg some (by kernel_rfl))
 f137:=Tryz.func138.trans (congrArg some (by kernel_rfl))
 f152:=Tryz.func144.trans (congrArg some (by kernel_rfl))
 f217:=Tryz.func172.trans (congrArg some (by kernel_rfl))
 f224:=Tryz.func175.trans (congrArg some (by kernel_rfl))
 f225:=Tryz.func176.trans (congrArg some (by kernel_rfl))
 f266:=Tryz.func193.trans (congrArg some (by kernel_rfl))
 t0:=Tryz.underlying0
 a0:=Tryz.isAgg0
 z0:=Tryz.sizeOf0
 v0:=Tryz.zeroValue0
 t3:=Tryz.underlying3
 a3:=Tryz.isAgg3
 z3:=Tryz.sizeOf3
 v3:=Tryz.zeroValue3
 t4:=Tryz.underlying4
 a4:=Tryz.isAgg4
 z4:=Tryz.sizeOf4
 v4:=Tryz.zeroValue4
 t5:=Tryz.underlying5
 a5:=Tryz.isAgg5
 z5:=Tryz.sizeOf5
 v5:=Tryz.zeroValue5
 t9:=Tryz.underlying9
 a9:=Tryz.isAgg9
 z9:=Tryz.sizeOf9
 v9:=Tryz.zeroValue9
 t21:=Tryz.underlying21
 a21:=Tryz.isAgg21
 z21:=Tryz.sizeOf21
 v21:=Tryz.zeroValue21
 t46:=Tryz.underlying141
 a46:=Tryz.isAgg141
 z46:=Tryz.sizeOf141
 v46:=Tryz.zeroValue141}
open Go.RowKit Go.Lib in
theorem Tryz.strings_IndexRune_ascii (s:ByteArray) (r:Int) (w:World) (h0:0≤r) (h1:r < 128):
  Calls Tryz.prog 144 #[.string s, .int .i32 r] w fun e w'=> e= .returned (.int .i64 (Lib.indexByte s.data.toList r.toNat.toUInt8))∧w'=w:=Any.strings_IndexRune_ascii Tryz.lays152 s r w h0 h1
end Go.Proofs
