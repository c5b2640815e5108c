import Derived.Test.YtgmangikcfakgaaGreatDoorPA9
import Derived.Test.YtgmangikcfakgaaGreatDoorPA2
import Derived.Great.BuildSlice
import Derived.Maps.AppendAt
import Derived.WalkMore
set_option maxRecDepth 100000
set_option maxHeartbeats 40000000
namespace Go.Proofs.YtgmangikcfakgaaGreatDoor
open Go.RowKit Sh Jt Js
namespace Js
def vv (v:V):List Value:=[.int .i64 v.kind, .string (sb v.key), .string (sb v.text), .int .i64 v.count]
def cellsV (L:List V):List Value:=L.flatMap vv
theorem qru (v:V) (L:List V):cellsV (v::L)=vv v++cellsV L:=rfl
theorem qa0 (L:List V):(cellsV L).length=L.length*4:=by
 induction L with
 | nil=> rfl
 | cons v r ih=>
  rw [qru,List.length_append,List.length_cons,ih];change 4+r.length*4=_
  omega
theorem qdr (a b:List V):cellsV (a++b)=cellsV a++cellsV b:=by simp [cellsV]
theorem qdi (L:List V) (i j:Nat) (hi:i < L.length) (hj:j < 4):(cellsV L)[i*4+j]? =(vv L[i])[j]? :=by
 have e:cellsV L=cellsV (L.take i)++(vv L[i]++cellsV (L.drop (i+1))):=by
  conv=> lhs;rw [←List.take_append_drop i L,qdr,List.drop_eq_getElem_cons hi]
  rfl
 have hl:(cellsV (L.take i)).length=i*4:=by rw [qa0,List.length_take,Nat.min_eq_left (Nat.le_of_lt hi)]
 rw [e,List.getElem?_append_right (by omega),hl,show i*4+j - i*4=j by omega,List.getElem?_append_left (by exact hj)]
theorem qet (L:List V):∀v∈cellsV L,v.oneCell'=true:=by
 intro v hv
 obtain ⟨p,_,h⟩:=List.mem_flatMap.1 hv
 simp only [vv,List.mem_cons,List.not_mem_nil,or_false]at h
 rcases h with rfl | rfl | rfl | rfl <;> rfl
end Js
structure ValsAt (w:World) (A:Option Addr) (n c:Nat) (L:List V):Prop where
 len:L.length=n
 cap:n≤c
 at_:0 < n→∃b o,A=some ⟨b,o,none⟩∧b < w.heap.size∧w.rangeAt b o (cellsV L)
theorem ValsAt.nil (w:World) (A:Option Addr) (c:Nat):ValsAt w A 0 c []:=⟨rfl,Nat.zero_le _,fun h=> absurd h (by decide)⟩
theorem ValsAt.kept {w w':World} {S:Nat→Prop} {A:Option Addr} {n c:Nat} {L:List V} (h:ValsAt w A n c L) (k:Kept w w' S) (hS:∀b o,A=some ⟨b,o,none⟩→b < w.heap.size→¬S b):ValsAt w' A n c L:=
 ⟨h.len,h.cap,fun hn=> by
  obtain ⟨b,o,e,hlt,hr⟩:=h.at_ hn
  exact ⟨b,o,e,Nat.lt_of_lt_of_le hlt k.size,qbd hr k (hS b o e hlt)⟩⟩
theorem ValsAt.below {w w':World} {A:Option Addr} {n c:Nat} {L:List V} (h:ValsAt w A n c L) (hb:Below w.heap.size w w'):ValsAt w' A n c L:=
 h.kept (qad hb) (fun _ _ _ _ h=> h)
theorem ValsAt.cells {w:World} {b o n c:Nat} {L:List V} (h:ValsAt w (some ⟨b,o,none⟩) n c L) {i:Nat} (hi:i < L.length):
  w.cell? ⟨b,o+i*4,none⟩=some (.int .i64 L[i].kind)∧w.cell? ⟨b,o+i*4+1,none⟩=some (.string (sb L[i].key))∧w.cell? ⟨b,o+i*4+2,none⟩=some (.string (sb L[i].text))∧w.cell? ⟨b,o+i*4+3,none⟩=some (.int .i64 L[i].count):=by
 obtain ⟨b',o',e,_,hr⟩:=h.at_ (by have:=h.len;omega)
 cases e
 have g:∀j v,(cellsV L)[i*4+j]? =some v→w.cell? ⟨b,o+i*4+j,none⟩=some v:=fun j v hv=> by
  rw [Nat.add_assoc];exact hr _ _ hv
 refine ⟨g 0 _ ?_,g 1 _ ?_,g 2 _ ?_,g 3 _ ?_⟩ <;> rw [qdi L i _ hi (by decide)] <;> rfl
theorem ValsAt.head {w:World} {b o n c:Nat} {v:V} {L:List V} (h:ValsAt w (some ⟨b,o,none⟩) n c (v::L)):
  w.cell? ⟨b,o,none⟩=some (.int .i64 v.kind)∧w.cell? ⟨b,o+1,none⟩=some (.string (sb v.key))∧w.cell? ⟨b,o+2,none⟩=some (.string (sb v.text))∧w.cell? ⟨b,o+3,none⟩=some (.int .i64 v.count):=by
 have:=h.cells (i:=0) (by simp)
 simpa using this
theorem ValsAt.sub {w:World} {b o n c:Nat} {L:List V} (h:ValsAt w (some ⟨b,o,none⟩) n c L) {i k:Nat} (hk:i+k≤n):ValsAt w (some ⟨b,o+i*4,none⟩) k (c - i) ((L.drop i).take k):=by
 have hl:=h.len
 have hc:=h.cap
 refine ⟨by rw [List.length_take,List.length_drop];omega,by omega,fun h0=> ?_⟩
 obtain ⟨b',o',e,hlt,hr⟩:=h.at_ (by omega)
 cases e
 refine ⟨b,_,rfl,hlt,fun j v hj=> ?_⟩
 have hjl:=(List.getElem?_eq_some_iff.1 hj).1
 rw [qa0,List.length_take,List.length_drop]at hjl
 have hi:j / 4 < ((L.drop i).take k).length:=by rw [List.length_take,List.length_drop];omega
 have ej:j=j / 4*4+j % 4:=by omega
 rw [ej,qdi _ _ _ hi (by omega)]at hj
 have hget:((L.drop i).take k)[j / 4]=L[i+j / 4]'(by rw [List.length_take,List.length_drop]at hi;omega):=by
  rw [List.getElem_take,List.getElem_drop]
 rw [hget]at hj
 rw [←qdi L (i+j / 4) (j % 4) (by rw [List.length_take,List.length_drop]at hi;omega) (by omega)]at hj
 have:=hr _ _ hj
 rwa [show o+((i+j / 4)*4+j % 4)=o+i*4+j by omega]at this
theorem ValsAt.lay {w:World} {b:Nat} {L:List V} (h:Row w b 72 (cellsV L)) (n:Nat) (hn:L.length=n):ValsAt w (some ⟨b,0,none⟩) n n L:=
 ⟨hn,Nat.le_refl _,fun _=> ⟨b,0,rfl,h.lt,h.range 0 _ (fun j v hj=> by rw [Nat.zero_add];exact hj)⟩⟩
def OwnVals (w:World) (B:Nat) (v:Value) (L:List V):Prop:=w.ownsRow B 72 4 v L.length (cellsV L)
theorem OwnVals.nil (w:World) (B:Nat):OwnVals w B (.slice none 0 0) []:=⟨rfl, .inl ⟨rfl,rfl⟩⟩
theorem OwnVals.kept {w w':World} {S:Nat→Prop} {B:Nat} {v:Value} {L:List V} (h:OwnVals w B v L) (k:Kept w w' S) (hS:∀b,v.ownBlock=some b→¬S b):OwnVals w' B v L:=by
 obtain ⟨hl,h1 | ⟨g,cap,cur,rfl,hg,hh,hn,hc,hs,ht⟩⟩:=h
 ·exact ⟨hl, .inl h1⟩
 ·exact ⟨hl, .inr ⟨g,cap,cur,rfl,hg,(k.block g (Array.getElem?_eq_some_iff.1 hh).1 (hS g rfl)).trans hh,hn,hc,hs,ht⟩⟩
theorem OwnVals.below {w w':World} {B:Nat} {v:Value} {L:List V} (h:OwnVals w B v L) (hb:Below w.heap.size w w'):OwnVals w' B v L:=h.kept (qad hb) (fun _ _ h=> h)
theorem OwnVals.mono {w:World} {B B':Nat} {v:Value} {L:List V} (h:OwnVals w B v L) (hB:B'≤B):OwnVals w B' v L:=by
 obtain ⟨hl,h1 | ⟨g,cap,cur,rfl,hg,rest⟩⟩:=h
 ·exact ⟨hl, .inl h1⟩
 ·exact ⟨hl, .inr ⟨g,cap,cur,rfl,Nat.le_trans hB hg,rest⟩⟩
theorem OwnVals.vals {w:World} {B:Nat} {v:Value} {L:List V} (h:OwnVals w B v L):∃(A:Option Addr) (c:Nat),v= .slice A L.length c∧ValsAt w A L.length c L∧(A=none→c=0)∧(∀a,A=some a→∃g,a=⟨g,0,none⟩∧B≤g∧g < w.heap.size)∧c≤maxLen:=by
 obtain ⟨hl,⟨rfl,h0⟩ | ⟨g,cap,cur,rfl,hg,hh,hn,hc,hs,ht⟩⟩:=h
 ·have:L=[]:=List.eq_nil_of_length_eq_zero h0
  subst this;exact ⟨none,0,rfl,ValsAt.nil w _ _,fun _=> rfl,(fun a e=> by cases e),Nat.zero_le _⟩
 ·have hlt:=(Array.getElem?_eq_some_iff.1 hh).1
  refine ⟨some ⟨g,0,none⟩,cap,rfl,⟨rfl,hn,fun _=> ⟨g,0,rfl,hlt,fun j u hj=> ?_⟩⟩,(fun e=> by cases e),fun a e=> ⟨g,(Option.some.inj e).symm,hg,hlt⟩,hc⟩
  have hjl:=(List.getElem?_eq_some_iff.1 hj).1
  rw [qa0]at hjl
  rw [cell_of_row _ _ _ _ _ _ hh,Nat.zero_add,←hj,←ht,List.getElem?_take,if_pos hjl];simp
theorem OwnVals.at_ {w:World} {B:Nat} {A:Option Addr} {n c:Nat} {L:List V} (h:OwnVals w B (.slice A n c) L):ValsAt w A n c L∧L.length=n:=by
 obtain ⟨A',c',e,h2,_⟩:=h.vals
 simp only [Value.slice.injEq]at e
 obtain ⟨rfl,rfl,rfl⟩:=e
 exact ⟨h2,rfl⟩
theorem OwnVals.got {w:World} {B:Nat} {v:Value} {L:List V} (h:OwnVals w B v L) (h0:0 < L.length):∃g c,v= .slice (some ⟨g,0,none⟩) L.length c∧B≤g∧g < w.heap.size∧L.length≤c:=by
 obtain ⟨hl,⟨rfl,h1⟩ | ⟨g,cap,cur,rfl,hg,hh,hn,hc,hs,ht⟩⟩:=h
 ·omega
 ·exact ⟨g,cap,rfl,hg,(Array.getElem?_eq_some_iff.1 hh).1,hn⟩
theorem OwnVals.unfrozen {w:World} {B g n c:Nat} {L:List V} (h:OwnVals w B (.slice (some ⟨g,0,none⟩) n c) L) (i:Nat):w.frozen? ⟨g,i,none⟩=false:=by
 obtain ⟨hl,⟨e,_⟩ | ⟨g',cap,cur,e,hg,hh,_⟩⟩:=h
 ·cases e
 ·simp only [Value.slice.injEq,Option.some.injEq,Addr.mk.injEq]at e
  obtain ⟨⟨rfl,_⟩,_,_⟩:=e
  simp [World.frozen?,hh]
theorem OwnVals.set {w:World} {B g n c:Nat} {L:List V} (h:OwnVals w B (.slice (some ⟨g,0,none⟩) n c) L) {i j:Nat} (hi:i < L.length) (hj:j < 4) {x:Value} {v:V} (hv:vv v=(vv L[i]).set j x):
  OwnVals (w.setCell ⟨g,i*4+j,none⟩ x) B (.slice (some ⟨g,0,none⟩) n c) (L.set i v):=by
 obtain ⟨hl,⟨e,_⟩ | ⟨g',cap,cur,e,hg,hh,hn,hc,hs,ht⟩⟩:=h
 ·cases e
 ·simp only [Value.slice.injEq,Option.some.injEq,Addr.mk.injEq]at e
  obtain ⟨⟨rfl,_⟩,rfl,rfl⟩:=e
  refine ⟨by rw [qa0], .inr ⟨g,c,cur.setIfInBounds (i*4+j) x,by rw [List.length_set],hg,heap_setCell_same w g _ cur _ x hh,by rw [List.length_set];exact hn,hc,by simpa using hs, ?_⟩⟩
  rw [List.length_set,Array.toList_setIfInBounds,List.take_set,ht];apply List.ext_getElem?
  intro k;rw [List.getElem?_set,qa0];by_cases hk:k < L.length*4
  ·have ek:k=k / 4*4+k % 4:=by omega
   have h1:k / 4 < (L.set i v).length:=by rw [List.length_set];omega
   have e2:(cellsV (L.set i v))[k]? =(vv ((L.set i v)[k / 4]))[k % 4]? :=by
    conv=> lhs;rw [ek]
    exact qdi _ _ _ h1 (by omega)
   have e3:(cellsV L)[k]? =(vv (L[k / 4]'(by omega)))[k % 4]? :=by
    conv=> lhs;rw [ek]
    exact qdi _ _ _ _ (by omega)
   rw [e2];by_cases hki:i*4+j=k
   ·have h4:k / 4=i:=by omega
    have h5:k % 4=j:=by omega
    rw [if_pos hki,if_pos (by omega),h5];have:(L.set i v)[k / 4]=v:=by simp [h4]
    rw [this,hv,List.getElem?_set_self (by exact hj)]
   ·rw [if_neg hki,e3]
    by_cases h4:i=k / 4
    ·have:(L.set i v)[k / 4]=v:=by simp [h4]
     rw [this,hv,List.getElem?_set,if_neg (by omega)];simp only [h4]
    ·rw [List.getElem_set,if_neg h4]
  ·have e1:(cellsV L)[k]? =none:=List.getElem?_eq_none (by rw [qa0];omega)
   have e2:(cellsV (L.set i v))[k]? =none:=List.getElem?_eq_none (by rw [qa0,List.length_set];omega)
   rw [if_neg (by omega),e1,e2]
theorem qc0:∃i,Tryz.prog.info? 72=some i∧i.zero=some (.agg #[.int .i64 0, .string ⟨#[]⟩, .string ⟨#[]⟩, .int .i64 0])∧i.size=4∧i.bytes=48:=by
 have h:(Tryz.prog.info? 72).map (fun i=> (i.zero,i.size,i.bytes))=some (some (.agg #[.int .i64 0, .string ⟨#[]⟩, .string ⟨#[]⟩, .int .i64 0]),4,48):=by kernel_rfl
 obtain ⟨i,hi,hz⟩:=Option.map_eq_some_iff.1 h
 simp only [Prod.mk.injEq]at hz
 exact ⟨i,hi,hz.1,hz.2.1,hz.2.2⟩
theorem qa6 {w:World} {ops:Array Oper} {rest:List Oper} {o:Oper} {a:Act} {Q:Exit→Act→World→Prop} (hg:o.guard=none) (s x:Operand)
  (ho:o.op= .call {callee:= .builtin .append,args:=#[s,x],argTypes:=#[26,26]}) (B:Nat) (v:Value) (L:List V) (hs:a.eval s=v) (hown:OwnVals w B v L)
  (ad:Addr) (n c:Nat) (M:List V) (hx:a.eval x= .slice (some ad) n c) (hsrc:ValsAt w (some ad) n c M) (hb:L.length+n≤1000000000000) (hB:B≤w.heap.size)
  (h:∀v' w',Hid (OwnVals w' B v' (L++M))→Hid (Kept w w' (fun k=> B≤k∧v.ownBlock=some k))→Hid (∀k,v'.ownBlock=some k→v.ownBlock=some k∨w.heap.size≤k)→wpList Tryz.prog ops Q rest (a.put o.dst v') w'):wpList Tryz.prog ops Q (o::rest) a w:=by
 obtain ⟨i,hi,hz,hsz,hby⟩:=qc0
 have hlen:=hsrc.len
 have hnews:∀j u,(cellsV M)[j]? =some u→w.cell? (ad.add j)=some u:=by
  intro j u hj;have hjl:=(List.getElem?_eq_some_iff.1 hj).1
  rw [qa0]at hjl
  obtain ⟨b,off,e,_,hr⟩:=hsrc.at_ (by omega)
  simp only [Option.some.injEq]at e
  subst e;rw [Addr.add_mid];exact hr j u hj
 obtain ⟨v',w',hr,h2,h3,h4,h5⟩:=run_append_own_at (P:=Tryz.prog) w B 26 o.type 72 i (.agg #[.int .i64 0, .string ⟨#[]⟩, .string ⟨#[]⟩, .int .i64 0]) 4 48 Tryz.underlying26 hi hz hsz hby rfl (by decide) v L.length (cellsV L) hown ad n c (cellsV M)
  (by rw [qa0,hlen]) hnews (qet M) (by unfold maxLen;omega) (by omega) hB
 refine qa5 (by simp [Region.wanted,hg]) fun K hK=> ?_
 unfold Oper.wp execOp
 simp only [ho,resolve,invoke,builtin,Sem.run_bind,Sem.run_pure,Result.andThen_ok,List.map_toArray,List.map_cons,List.map_nil,hs,hx,hr]
 refine hK _ _ (h v' w' ?_ ?_ ?_)
 ·show w'.ownsRow B _ 4 v' (L++M).length (cellsV (L++M))
  rw [List.length_append,hlen,qdr];exact h2
 ·refine ⟨h3.os,h3.tape,h3.output,h3.size,fun k hk hn=> h3.block k hk (fun e=> hn ?_)⟩
  obtain ⟨_,⟨rfl,_⟩ | ⟨g,cap,cur,rfl,hg,_⟩⟩:=hown
  ·cases e
  ·have e':g=k:=by simpa [Value.ownBlock] using e.symm
   subst e'
   exact ⟨hg,rfl⟩
 ·intro k hk
  rcases h5 with h5 | h5
  ·exact .inl (h5▸hk)
  ·rw [h5]at hk
   exact .inr (Nat.le_of_eq (Option.some.inj hk))
end Go.Proofs.YtgmangikcfakgaaGreatDoor
namespace Go.Proofs.YtgmangikcfakgaaGreatDoor
open Go.RowKit Sh
namespace Jt
theorem qh9:∀(i:Nat) (h:i < marks.length),(marks[i]).toNat < 128:=by decide
theorem qxx {i:Nat} (h:i < (sb marks).size):∃c,c < 128∧Utf8.decode (sb marks) i=(c,1):=by
 have h7:i < marks.length:=h
 have hl:=qh9 i h7
 refine ⟨(marks[i]).toNat,hl, ?_⟩
 rw [qho marks h7,charF,if_pos hl]
 rfl
theorem qww {l:List UInt8} {c:UInt8} (h:∀x∈l,x≠c):Lib.indexByte l c= -1:=by
 induction l with
 | nil=> rfl
 | cons a r ih=>
  rw [Lib.indexByte,beq_eq_false_iff_ne.2 (h a (List.mem_cons_self ..)),ih (fun x hx=> h x (List.mem_cons_of_mem _ hx))];rfl
theorem qt3 {n:Nat} (hn:scalar n=true) (h:128≤n):∃m,m+1=(bytesF n).length∧1≤m∧m≤3∧∃c,(bytesF n)[m]? =some c∧128≤c.toNat:=by
 have hs:=qal.1 hn
 unfold bytesF
 rw [if_neg (by omega)]
 split
 ·exact ⟨1,rfl,Nat.le_refl _,by omega,_,rfl,by rw [toN _ (by omega)];omega⟩
 split
 ·exact ⟨2,rfl,by omega,by omega,_,rfl,by rw [toN _ (by omega)];omega⟩
 ·exact ⟨3,rfl,by omega,by omega,_,rfl,by rw [toN _ (by omega)];omega⟩
theorem qyv {n:Nat} (hn:scalar n=true):Lib.validRune (n:Int)=true:=by
 have hs:=qal.1 hn
 unfold Lib.validRune
 simp
 omega
end Jt
open Jt
theorem qpk (w:World):Calls Tryz.prog 144 #[.string (sb marks), .int .i32 65533] w fun e w'=> e= .returned (.int .i64 (-1))∧∃o,w'=w.alloc o:=by
 have HM:=Qh (fun (i:Nat) (h:i < (sb marks).size)=> qxx h)
 generalize sb marks=S at*
 go_enter Tryz.func144,Tryz.ntmps144
 go_wp2_with fail
 go_loopg [5,6] S.size (fun g _ _ wx=> ∃i:Nat,i+g=S.size∧wx=w.iter S i)
 case atStart=> exact ⟨0,by omega,rfl⟩
 case round=>
  obtain ⟨i,hig,rfl⟩:=hrel
  cases gk with
  | zero=>
   obtain rfl:i=S.size:=by omega
   have hnx:=run_next_end (P:=Tryz.prog) w S S.size
   go_wp2_with fail;go_ret;exact ⟨rfl,_,rfl⟩
  | succ g=>
   have hi:i < S.size:=by omega
   obtain ⟨c,hc,hd⟩:=HM.out i hi
   have hnx:=fun ty=> run_next_any (P:=Tryz.prog) w S i ty hi
   rw [hd]at hnx
   have hne:¬(c:Int)=65533:=by omega
   clear hd;go_wp2_with fail;go_roundg g
   case measure=> omega
   case rel=> exact ⟨i+1,by omega,rfl⟩
theorem qnz (w:World) {n:Nat} (hn:scalar n=true) (h1:128≤n) (h2:n≠65533):Calls Tryz.prog 144 #[.string (sb marks), .int .i32 (n:Int)] w fun e w'=> e= .returned (.int .i64 (-1))∧Below w.heap.size w w':=by
 have hs:=qal.1 hn
 obtain ⟨m,hm,hm1,hm3,c,hc,hc1⟩:=qt3 hn h1
 have hcL:(bytesF n)[m]'(by omega)=c:=by
  have:=List.getElem?_eq_getElem (show m < (bytesF n).length by omega)
  rw [this]at hc
  exact Option.some.inj hc
 have hix1:=fun W=> qam (bytesF n) m (by omega) W
 rw [hcL]at hix1
 have h7:m < marks.length:=by show m < 7;omega
 have hix2:=fun W=> qam marks m h7 W
 have hlow:=qh9 m h7
 have HV:=Qh (fun W=> Tryz.utf8_ValidRune (n:Int) W)
 rw [qyv hn]at HV
 have HI:=Qh (fun W=> qkm (marks.drop (m+1)) c W)
 rw [qww (fun x hx e=> by
  have hx2:=List.mem_of_mem_drop hx
  obtain ⟨j,hj,e2⟩:=List.getElem_of_mem hx2
  have:=qh9 j hj
  rw [e2,e]at this
  omega)]at HI
 have hcut:=qcj marks (m+1) marks.length
 rw [List.take_length]at hcut
 have hen:=qvd hn
 have hsz:(sb (bytesF n)).size=m+1:=by rw [qag];omega
 change Utf8.encode (n:Int)=sb (bytesF n)at hen
 have hsz2:(sb marks).size=7:=rfl
 change (sb marks).extract (m+1) 7=_ at hcut
 have hne:¬n8 (marks[m])=n8 c:=by unfold n8;omega
 generalize n8 (marks[m])=d at*
 clear hcL hc
 generalize sb (bytesF n)=R at*
 generalize sb (marks.drop (m+1))=Z at*
 generalize sb marks=S at*
 generalize n8 c=c8 at*
 have i1:128≤(n:Int):=by omega
 have i2:¬(n:Int)=65533:=by omega
 have i3:(n:Int)≤1114111:=by omega
 obtain ⟨m1,hm1'⟩:∃m1,m1=m+1:=⟨_,rfl⟩
 have hwr:IntKind.i64.wrap ((m:Int)+1)=(m1:Int):=by
  rw [IntKind.wrap_i64];omega
 have hm17:(m1:Int)≤7:=by omega
 rw [←hm1']at hcut
 have HIm:=Qh hm1'
 clear hm1'
 clear hlow hc1 hm h7 hs h1 h2 hn
 generalize (n:Int)=z at*
 have hcv:∀W,(convert 21 9 (.int .i32 z)).run Tryz.prog W= .ok (.string R) W:=fun W=> by
  rw [←hen];exact run_convert_int_string W _ _ _ _ (by rw [Tryz.underlying21];rfl) Tryz.underlying9
 clear hen
 go_enter Tryz.func144,Tryz.ntmps144
 go_wp2_with fail
 refine (HV.out _).mono ?_
 rintro e w1 ⟨rfl,rfl⟩
 go_wp2_with fail
 go_step3
 go_wp2_with fail
 go_loopg [9,10] 0 (fun _ vi vf wx=> vi= .int .i64 m∧vf= .int .i64 0∧wx=w1)
 case atStart=> exact ⟨by go_num,rfl,rfl⟩
 case round=>
  obtain ⟨rfl,rfl,rfl⟩:=hrel
  go_wp2_with fail;go_step3
  go_upto_region 6 with fail;go_quiet (fail)
  go_upto_region 7 with fail;go_quiet (first | exact q0s (HI.out _) | fail)
  go_wp2_with fail;simp only [Exit.noGoto_ret,Exit.then,Exit.inBlock]
  go_ret;exact ⟨rfl,qaa (Below.refl _ _) _⟩
theorem qyn (w:World) {n:Nat} (hn:scalar n=true):Calls Tryz.prog 144 #[.string (sb marks), .int .i32 (n:Int)] w fun e w'=>
  e= .returned (.int .i64 (if n < 128 then Lib.indexByte marks (UInt8.ofNat n) else -1))∧Below w.heap.size w w':=by
 by_cases h1:n < 128
 ·rw [if_pos h1]
  refine (Tryz.strings_IndexRune_ascii (sb marks) (n:Int) w (by omega) (by omega)).mono ?_
  rintro e w' ⟨rfl,rfl⟩;refine ⟨?_,Below.refl _ _⟩
  rw [Int.toNat_natCast];rfl
 ·rw [if_neg h1]
  by_cases h2:n=65533
  ·subst h2
   refine (qpk w).mono ?_
   rintro e w' ⟨rfl,o,rfl⟩;exact ⟨rfl,(Below.refl _ _).alloc (Nat.le_refl _) _⟩
  ·exact qnz w hn (by omega) h2
end Go.Proofs.YtgmangikcfakgaaGreatDoor
namespace Go.Proofs.YtgmangikcfakgaaGreatDoor
open Go.RowKit Sh
namespace Jt
def hexs:List UInt8:=[48,49,50,51,52,53,54,55,56,57,97,98,99,100,101,102]
theorem q2o:∀d:Nat,(h:d < 16)→hexs[d]'h=hexd d:=by
 have:∀d:Fin 16,hexs[d.1]'d.2=hexd d.1:=by decide
 exact fun d h=> this ⟨d,h⟩
theorem qo5 (d:Nat) (h:d < 16) (hx:d < (⟨#[48,49,50,51,52,53,54,55,56,57,97,98,99,100,101,102]⟩:ByteArray).size):((((⟨#[48,49,50,51,52,53,54,55,56,57,97,98,99,100,101,102]⟩:ByteArray)[d]'hx).toNat:Nat):Int)=n8 (hexd d):=
 congrArg n8 (q2o d h)
theorem qvv {j:Nat} (h:j < 8) (W:World):(Instr.index 9 (.string (sb lets)) (.int .i64 (j:Int))).run Tryz.prog W= .ok (.int .u8 (n8 (lets.getD j 0))) W:=by
 rw [qam lets j h W]
 congr 4
 rw [List.getD_eq_getElem?_getD,List.getElem?_eq_getElem h]
 rfl
theorem qiu {n:Nat} (h:n < 128):(oneF n).length≤6:=by
 have:∀n:Fin 128,(oneF n.1).length≤6:=by decide
 exact this ⟨n,h⟩
theorem q_len (n:Nat):(qF n).length≤6:=by
 unfold qF
 split
 ·exact qiu (by assumption)
 ·unfold bytesF
  split
  ·exact Nat.le_of_ble_eq_true rfl
  split
  ·exact Nat.le_of_ble_eq_true rfl
  split
  ·exact Nat.le_of_ble_eq_true rfl
  ·exact Nat.le_of_ble_eq_true rfl
theorem qb9 (n:Nat):(bytesF n).length≤4:=by
 unfold bytesF
 split
 ·exact Nat.le_of_ble_eq_true rfl
 split
 ·exact Nat.le_of_ble_eq_true rfl
 split
 ·exact Nat.le_of_ble_eq_true rfl
 ·exact Nat.le_of_ble_eq_true rfl
structure Mid (w:World) (b k:Nat) (l acc:List UInt8) (pos:Nat) (wr:World):Prop where
 bld:Bld b acc wr
 it:wr.heap[k]? =some (.stringIter (sb l) pos)
 bk:b < k
 low:Below b w wr
namespace Mid
variable {w wr w':World} {b k pos:Nat} {l acc:List UInt8}
theorem lt (h:Mid w b k l acc pos wr):b≤wr.heap.size:=by
 have:=(Array.getElem?_eq_some_iff.1 h.it).1
 have:=h.bk
 omega
theorem wrote (h:Mid w b k l acc pos wr) {acc':List UInt8} (W:Wrote b acc' wr w'):Mid w b k l acc' pos w':=
 ⟨W.bld,W.kept.iter h.it (fun e=> absurd h.bk (by rw [e];exact Nat.lt_irrefl _)),h.bk,h.low.trans W.below⟩
theorem still (h:Mid w b k l acc pos wr) (hb:Below wr.heap.size wr w'):Mid w b k l acc pos w':=
 ⟨h.bld.below hb,qtp h.it hb,h.bk,h.low.trans (hb.mono h.lt)⟩
theorem next (h:Mid w b k l acc pos wr) (p:Nat):Mid w b k l acc p (wr.iterAt k (sb l) p):=
 ⟨h.bld.iterAt h.it p,Lib.iterAt_heap wr k (sb l) pos p h.it,h.bk,Lib.below_iterAt h.low (Nat.le_of_lt h.bk) (sb l) p⟩
end Mid
structure QSt (w:World) (b k:Nat) (l acc:List UInt8) (pos:Nat) (wr:World):Prop where
 mid:Mid w b k l acc pos wr
 quo:acc++quoteB (l.drop pos)=34::quoteB l
 len:acc.length≤6*pos+1
theorem QSt.on {w wr w':World} {b k pos n j:Nat} {l acc:List UInt8} (h:QSt w b k l acc pos wr) (hj:1≤j) (hq:quoteB (l.drop pos)=qF n++quoteB (l.drop (pos+j))) (m:Mid w b k l (acc++qF n) (pos+j) w'):QSt w b k l (acc++qF n) (pos+j) w':=by
 refine ⟨m, ?_, ?_⟩
 ·rw [List.append_assoc,←hq,h.quo]
 ·have h1:=h.len
  have h2:=q_len n
  rw [List.length_append];omega
end Jt
open Jt
theorem qp3 (w:World) (l:List UInt8) (hl:l.length≤1000000000):Calls Tryz.prog 108 #[.string (sb l)] w fun e w'=> e= .returned (.string (sb (quoteF l)))∧Below w.heap.size w w':=by
 have HD:=Qh (fun (i:Nat) (h:i < l.length)=> qho l h)
 have HT:=Qh (fun (i:Nat) (h:i < l.length)=> qiz (at_of l h))
 have HQ:=Qh (fun (i:Nat) (h:i < l.length)=> qt2 (at_of l h))
 have hsz:=qag l
 have hcut:(⟨#[34,92,8,12,10,13,9,47]⟩:ByteArray).extract 0 7=sb marks:=qcj means 0 7
 go_enter Tryz.func108,Tryz.ntmps108
 go_wp2_with fail
 have HB:=qd3 (Bld.fresh w) (by simp) (by simp) 34
 rw [show n8 34=34 from rfl]at HB
 refine HB.mono ?_
 rintro e w1 ⟨rfl,W1⟩
 have HW1:=Qh W1
 clear W1 HB
 go_wp2_with fail
 go_loopg [] l.length (fun g wx=> ∃(pos:Nat) (acc:List UInt8),pos+g=l.length∧Hid (QSt w w.heap.size w1.heap.size l acc pos wx))
 case atStart=>
  refine ⟨0,[34],by omega,Qh ⟨⟨HW1.out.bld.alloc _,World.iter_heap w1 (sb l) 0, ?_,((((Below.refl _ w).alloc (Nat.le_refl _) _).trans HW1.out.below).alloc ?_ _)⟩,rfl,by simp⟩⟩
  ·have:=HW1.out.below.size
   rw [World.size_alloc]at this
   omega
  ·have:=HW1.out.below.size
   rw [World.size_alloc]at this
   omega
 case round=>
  obtain ⟨pos,acc,hpg,HS⟩:=hrel
  have hit:=HS.out.mid.it
  cases gk with
  | zero=>
   obtain rfl:pos=l.length:=by omega
   have hnx:=fun ty=> Lib.run_next_end_at (P:=Tryz.prog) wr w1.heap.size (sb l) l.length ty hit (by rw [hsz];omega)
   have HO:=Qh (qd3 HS.out.mid.bld (by have:=HS.out.len;omega) HS.out.mid.lt 34)
   rw [show n8 34=34 from rfl]at HO
   have HF:=Qh (show acc++[34]=quoteF l from by
    have h:=HS.out.quo
    rw [List.drop_length,qeh,List.append_nil]at h
    rw [h];rfl)
   have HL:=Qh HS.out.mid.low
   have HLT:=Qh HS.out.mid.lt
   clear hit HS HD HT HQ HW1 hcut hsz;generalize sb l=S at*;go_wp2_with fail;refine HO.out.mono ?_
   rintro e w2 ⟨rfl,W2⟩;have HW:=Qh W2
   clear W2;go_wp2_with fail;refine (qmd HW.out.bld (Nat.le_trans HLT.out HW.out.below.size)).mono ?_
   rintro e w3 ⟨rfl,B3⟩;have HB3:=Qh B3
   clear B3;go_wp2_with fail;go_ret;exact ⟨by rw [HF.out];rfl,(HL.out.trans HW.out.below).trans HB3.out⟩
  | succ g=>
   have hlt:pos < l.length:=by omega
   have hd:=HD.out pos hlt
   have T:=HT.out pos hlt
   have hq:=HQ.out pos hlt
   have hnx:=fun ty=> Lib.run_next_any_at (P:=Tryz.prog) wr w1.heap.size (sb l) pos ty hit (by rw [hsz];exact hlt)
   rw [hd]at hnx
   obtain ⟨n,j,hnj⟩:∃n j,orBad (charF (l[pos]::l.drop (pos+1)))=(n,j):=⟨_,_,rfl⟩
   rw [hnj]at T hq hnx
   dsimp only at T hq hnx
   have HN:=Qh (fun (w':World) (m:Mid w w.heap.size w1.heap.size l (acc++qF n) (pos+j) w')=> HS.out.on T.pos hq m)
   have HM2:=Qh (HS.out.mid.next (pos+j))
   have hlen:acc.length≤100000000000:=by have:=HS.out.len;omega
   have HLEN:=Qh (show acc.length≤10000000000 by have:=HS.out.len;omega)
   have HI:=Qh (fun W=> qyn W T.ok)
   have hj:=T.pos
   have hjl:=T.le
   have HT1:=Qh T.ok
   have hn0:(0:Int)≤(n:Int):=by omega
   clear hd hq HD HT HQ hnj T HS hit;generalize hw2:wr.iterAt w1.heap.size (sb l) (pos+j)=w2 at hnx HM2;go_wp2_with fail;refine (HI.out w2).mono ?_
   rintro e w3 ⟨rfl,B3⟩;have HM3:=Qh (HM2.out.still B3)
   clear B3 HM2 hnx hw2 HI;by_cases h128:n < 128
   ·rw [if_pos h128]
    have O:=q2x h128
    generalize Lib.indexByte marks (UInt8.ofNat n)=z at*;have hq1:qF n=oneF n:=if_pos h128
    by_cases hz:z= -1
    ·subst hz
     by_cases h32:n < 32
     ·have HE:=Qh (hq1.trans (O.hex rfl h32))
      clear hq1 O;have hi32:(n:Int) < 32:=by omega
      go_wp2_with fail;refine (q13 HM3.out.bld hlen HM3.out.lt [92,117,48,48] (by simp)).mono ?_
      rintro e w4 ⟨rfl,W4⟩;have HM4:=Qh (HM3.out.wrote W4)
      clear W4;go_wp2_with fail;rw [qo5 (n / 16) (by omega)];refine (qd3 HM4.out.bld (by simp;have:=HLEN.out;omega) HM4.out.lt (hexd (n / 16))).mono ?_
      rintro e w5 ⟨rfl,W5⟩;have HM5:=Qh (HM4.out.wrote W5)
      clear W5;go_wp2_with fail;rw [qo5 (n % 16) (by omega)];refine (qd3 HM5.out.bld (by simp;have:=HLEN.out;omega) HM5.out.lt (hexd (n % 16))).mono ?_
      rintro e w6 ⟨rfl,W6⟩;have HQ6:=Qh (HN.out w6 (by rw [HE.out];have:=HM5.out.wrote W6;rw [List.append_assoc,List.append_assoc]at this;exact this))
      clear W6;go_wp2_with fail;go_roundg (g+1 - j)
      case measure=> omega
      case rel=> exact ⟨pos+j,_,by omega,HQ6⟩
     ·have HQN:=Qh (show qF n=bytesF n from by
       rw [hq1,O.no rfl h32];unfold bytesF;rw [if_pos h128])
      clear hq1 O;have hi32:¬(n:Int) < 32:=by omega
      go_wp2_with fail;refine (qfn HM3.out.bld hlen HM3.out.lt HT1.out).mono ?_
      rintro e w4 ⟨⟨v,rfl⟩,W4⟩;have HQ4:=Qh (HN.out w4 (by rw [HQN.out];exact HM3.out.wrote W4))
      clear W4;go_wp2_with fail;go_roundg (g+1 - j)
      case measure=> omega
      case rel=> exact ⟨pos+j,_,by omega,HQ4⟩
    ·obtain ⟨m,rfl⟩:∃m:Nat,z=(m:Int):=⟨z.toNat,by have:=O.lo;omega⟩
     have hm:m < 8:=by have:=O.hi;omega
     have HE:=Qh (hq1.trans (O.yes m rfl))
     have hix:∀W,(Instr.index 9 (.string ⟨#[34,92,98,102,110,114,116,47]⟩) (.int .i64 (m:Int))).run Tryz.prog W= .ok (.int .u8 (n8 (lets.getD m 0))) W:=fun W=> qvv hm W
     clear hq1 O;generalize lets.getD m 0=c at*;go_wp2_with fail;refine (qd3 HM3.out.bld hlen HM3.out.lt 92).mono ?_
     rintro e w4 ⟨rfl,W4⟩;have HM4:=Qh (HM3.out.wrote W4)
     clear W4;go_wp2_with fail;refine (qd3 HM4.out.bld (by simp;have:=HLEN.out;omega) HM4.out.lt c).mono ?_
     rintro e w5 ⟨rfl,W5⟩;have HQ5:=Qh (HN.out w5 (by rw [HE.out];have:=HM4.out.wrote W5;rw [List.append_assoc]at this;exact this))
     clear W5;go_wp2_with fail;go_roundg (g+1 - j)
     case measure=> omega
     case rel=> exact ⟨pos+j,_,by omega,HQ5⟩
   ·rw [if_neg h128]
    have HQN:=Qh (show qF n=bytesF n from if_neg h128)
    have hi32:¬(n:Int) < 32:=by omega
    go_wp2_with fail;refine (qfn HM3.out.bld hlen HM3.out.lt HT1.out).mono ?_
    rintro e w4 ⟨⟨v,rfl⟩,W4⟩;have HQ4:=Qh (HN.out w4 (by rw [HQN.out];exact HM3.out.wrote W4))
    clear W4;go_wp2_with fail;go_roundg (g+1 - j)
    case measure=> omega
    case rel=> exact ⟨pos+j,_,by omega,HQ4⟩
end Go.Proofs.YtgmangikcfakgaaGreatDoor
namespace Go.Proofs.YtgmangikcfakgaaGreatDoor
open Go.RowKit Sh
namespace Jt
theorem qdk (w:World) (bs:List UInt8) (C:Array Value) (hC:C=(bs.map v8).toArray) (n:Nat) (hn:bs.length=n):
  (convert 22 9 (.slice (some ⟨w.heap.size,0,none⟩) n n)).run Tryz.prog (w.alloc (.cells C 5))= .ok (.string (sb bs)) (w.alloc (.cells C 5)):=
 qel _ _ _ _ _ (BytesAt.const w bs 5 (0,0) hC hn)
theorem v8_of {n:Nat} (h:n < 256) (z:Int) (hz:z=(n:Int)):Value.int .u8 z=v8 (UInt8.ofNat n):=by
 unfold v8
 rw [n8_of h,hz]
end Jt
open Jt
theorem qj6 (w:World) (n:Nat) (hn:scalar n=true):Calls Tryz.prog 147 #[.int .i64 (n:Int)] w fun e w'=> e= .returned (.string (sb (bytesF n)))∧Below w.heap.size w w':=by
 have hs:=qal.1 hn
 obtain ⟨z,hz⟩:∃z:Int,z=(n:Int):=⟨_,rfl⟩
 rw [←hz]
 have hz0:0≤z:=by omega
 have hz1:z≤1114111:=by omega
 have hB:=fun (C:Array Value)=> ((Below.refl w.heap.size w).alloc (Nat.le_refl _) (.cells C 5))
 have HB:=Qh hB
 clear hB
 unfold bytesF
 by_cases h1:n < 128
 ·rw [if_pos h1]
  have i1:z < 128:=by omega
  have hcv:=qdk w [UInt8.ofNat n] #[.int .u8 z] (by rw [v8_of (by omega) z hz];rfl) 1 rfl
  clear hz hs hn h1;go_enter Tryz.func147,Tryz.ntmps147
  go_wp2_with fail;go_ret;exact ⟨rfl,HB.out _⟩
 by_cases h2:n < 2048
 ·rw [if_neg h1,if_pos h2]
  have i1:128≤z:=by omega
  have i2:z < 2048:=by omega
  have hcv:=qdk w [UInt8.ofNat (192+n / 64),UInt8.ofNat (128+n % 64)] #[.int .u8 (192+z / 64), .int .u8 (128+z % 64)] (by rw [v8_of (n:=192+n / 64) (by omega) _ (by omega),v8_of (n:=128+n % 64) (by omega) _ (by omega)];rfl) 2 rfl
  generalize [UInt8.ofNat (192+n / 64),UInt8.ofNat (128+n % 64)]=L at*;clear hz hs hn h1 h2;go_enter Tryz.func147,Tryz.ntmps147
  go_wp2_with fail;go_ret;exact ⟨rfl,HB.out _⟩
 by_cases h3:n < 65536
 ·rw [if_neg h1,if_neg h2,if_pos h3]
  have i1:2048≤z:=by omega
  have i2:z < 65536:=by omega
  have hcv:=qdk w [UInt8.ofNat (224+n / 4096),UInt8.ofNat (128+n / 64 % 64),UInt8.ofNat (128+n % 64)] #[.int .u8 (224+z / 4096), .int .u8 (128+z / 64 % 64), .int .u8 (128+z % 64)] (by rw [v8_of (n:=224+n / 4096) (by omega) _ (by omega),v8_of (n:=128+n / 64 % 64) (by omega) _ (by omega),v8_of (n:=128+n % 64) (by omega) _ (by omega)];rfl) 3 rfl
  generalize [UInt8.ofNat (224+n / 4096),UInt8.ofNat (128+n / 64 % 64),UInt8.ofNat (128+n % 64)]=L at*;clear hz hs hn h1 h2 h3;go_enter Tryz.func147,Tryz.ntmps147
  go_wp2_with fail;go_ret;exact ⟨rfl,HB.out _⟩
 ·rw [if_neg h1,if_neg h2,if_neg h3]
  have i1:65536≤z:=by omega
  have hcv:=qdk w [UInt8.ofNat (240+n / 262144),UInt8.ofNat (128+n / 4096 % 64),UInt8.ofNat (128+n / 64 % 64),UInt8.ofNat (128+n % 64)] #[.int .u8 (240+z / 262144), .int .u8 (128+z / 4096 % 64), .int .u8 (128+z / 64 % 64), .int .u8 (128+z % 64)] (by rw [v8_of (n:=240+n / 262144) (by omega) _ (by omega),v8_of (n:=128+n / 4096 % 64) (by omega) _ (by omega),v8_of (n:=128+n / 64 % 64) (by omega) _ (by omega),v8_of (n:=128+n % 64) (by omega) _ (by omega)];rfl) 4 rfl
  generalize [UInt8.ofNat (240+n / 262144),UInt8.ofNat (128+n / 4096 % 64),UInt8.ofNat (128+n / 64 % 64),UInt8.ofNat (128+n % 64)]=L at*;clear hz hs hn h1 h2 h3;go_enter Tryz.func147,Tryz.ntmps147
  go_wp2_with fail;go_ret;exact ⟨rfl,HB.out _⟩
namespace Jt
end Jt
end Go.Proofs.YtgmangikcfakgaaGreatDoor
