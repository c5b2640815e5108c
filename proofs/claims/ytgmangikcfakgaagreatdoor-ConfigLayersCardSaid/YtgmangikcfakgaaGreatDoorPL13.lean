import Derived.Test.YtgmangikcfakgaaGreatDoorPL12
import Derived.Test.YtgmangikcfakgaaGreatDoorPL3
import Derived.Great.BuildSlice
import Derived.Maps.AppendAt
namespace Go.Proofs.YtgmangikcfakgaaGreatDoor
open Go.RowKit Sh Jt Js
namespace Js
def vv (v:V):List Value:=[.int .i64 v.kind, .string (sb v.key), .string (sb v.text), .int .i64 v.count]
def cellsV (L:List V):List Value:=L.flatMap vv
theorem cellsV_cons (v:V) (L:List V):cellsV (v::L)=vv v++cellsV L:=rfl
theorem cellsV_len (L:List V):(cellsV L).length=L.length*4:=by
 induction L with
 | nil=> rfl
 | cons v r ih=>
  rw [cellsV_cons,List.length_append,List.length_cons,ih]
  change 4+r.length*4=_
  omega
theorem cellsV_app (a b:List V):cellsV (a++b)=cellsV a++cellsV b:=by simp [cellsV]
theorem cellsV_at (L:List V) (i j:Nat) (hi:i < L.length) (hj:j < 4):(cellsV L)[i*4+j]? =(vv L[i])[j]? :=by
 have e:cellsV L=cellsV (L.take i)++(vv L[i]++cellsV (L.drop (i+1))):=by
  conv=> lhs;rw [←List.take_append_drop i L,cellsV_app,List.drop_eq_getElem_cons hi]
  rfl
 have hl:(cellsV (L.take i)).length=i*4:=by rw [cellsV_len,List.length_take,Nat.min_eq_left (Nat.le_of_lt hi)]
 rw [e,List.getElem?_append_right (by omega),hl,show i*4+j - i*4=j by omega,List.getElem?_append_left (by exact hj)]
theorem cellsV_one (L:List V):∀v∈cellsV L,v.oneCell'=true:=by
 intro v hv
 obtain ⟨p,_,h⟩:=List.mem_flatMap.1 hv
 simp only [vv,List.mem_cons,List.not_mem_nil,or_false]at h
 rcases h with rfl | rfl | rfl | rfl <;> rfl
end Js
structure ValsAt (w:World) (A:Option Addr) (n c:Nat) (L:List V):Prop where
 len:L.length=n
 cap:n≤c
 at_:0 < n→∃b o,A=some ⟨b,o,none⟩∧b < w.heap.size∧w.rangeAt b o (cellsV L)
theorem ValsAt.nil (w:World) (A:Option Addr) (c:Nat):ValsAt w A 0 c []:=⟨rfl,Nat.zero_le _,fun h=> absurd h (by decide)⟩
theorem ValsAt.kept {w w':World} {S:Nat→Prop} {A:Option Addr} {n c:Nat} {L:List V} (h:ValsAt w A n c L) (k:Kept w w' S) (hS:∀b o,A=some ⟨b,o,none⟩→b < w.heap.size→¬S b):ValsAt w' A n c L:=
 ⟨h.len,h.cap,fun hn=> by
  obtain ⟨b,o,e,hlt,hr⟩:=h.at_ hn
  exact ⟨b,o,e,Nat.lt_of_lt_of_le hlt k.size,rangeAt_kept hr k (hS b o e hlt)⟩⟩
theorem ValsAt.below {w w':World} {A:Option Addr} {n c:Nat} {L:List V} (h:ValsAt w A n c L) (hb:Below w.heap.size w w'):ValsAt w' A n c L:=
 h.kept (kept_below hb) (fun _ _ _ _ h=> h)
theorem ValsAt.cells {w:World} {b o n c:Nat} {L:List V} (h:ValsAt w (some ⟨b,o,none⟩) n c L) {i:Nat} (hi:i < L.length):
  w.cell? ⟨b,o+i*4,none⟩=some (.int .i64 L[i].kind)∧w.cell? ⟨b,o+i*4+1,none⟩=some (.string (sb L[i].key))∧w.cell? ⟨b,o+i*4+2,none⟩=some (.string (sb L[i].text))∧w.cell? ⟨b,o+i*4+3,none⟩=some (.int .i64 L[i].count):=by
 obtain ⟨b',o',e,_,hr⟩:=h.at_ (by have:=h.len;omega)
 cases e
 have g:∀j v,(cellsV L)[i*4+j]? =some v→w.cell? ⟨b,o+i*4+j,none⟩=some v:=fun j v hv=> by
  rw [Nat.add_assoc]
  exact hr _ _ hv
 refine ⟨g 0 _ ?_,g 1 _ ?_,g 2 _ ?_,g 3 _ ?_⟩ <;> rw [cellsV_at L i _ hi (by decide)] <;> rfl
theorem ValsAt.head {w:World} {b o n c:Nat} {v:V} {L:List V} (h:ValsAt w (some ⟨b,o,none⟩) n c (v::L)):
  w.cell? ⟨b,o,none⟩=some (.int .i64 v.kind)∧w.cell? ⟨b,o+1,none⟩=some (.string (sb v.key))∧w.cell? ⟨b,o+2,none⟩=some (.string (sb v.text))∧w.cell? ⟨b,o+3,none⟩=some (.int .i64 v.count):=by
 have:=h.cells (i:=0) (by simp)
 simpa using this
theorem ValsAt.sub {w:World} {b o n c:Nat} {L:List V} (h:ValsAt w (some ⟨b,o,none⟩) n c L) {i k:Nat} (hk:i+k≤n):ValsAt w (some ⟨b,o+i*4,none⟩) k (c - i) ((L.drop i).take k):=by
 have hl:=h.len
 have hc:=h.cap
 refine ⟨by rw [List.length_take,List.length_drop];omega,by omega,fun h0=> ?_⟩
 obtain ⟨b',o',e,hlt,hr⟩:=h.at_ (by omega)
 cases e
 refine ⟨b,_,rfl,hlt,fun j v hj=> ?_⟩
 have hjl:=(List.getElem?_eq_some_iff.1 hj).1
 rw [cellsV_len,List.length_take,List.length_drop]at hjl
 have hi:j / 4 < ((L.drop i).take k).length:=by rw [List.length_take,List.length_drop];omega
 have ej:j=j / 4*4+j % 4:=by omega
 rw [ej,cellsV_at _ _ _ hi (by omega)]at hj
 have hget:((L.drop i).take k)[j / 4]=L[i+j / 4]'(by rw [List.length_take,List.length_drop]at hi;omega):=by
  rw [List.getElem_take,List.getElem_drop]
 rw [hget]at hj
 rw [←cellsV_at L (i+j / 4) (j % 4) (by rw [List.length_take,List.length_drop]at hi;omega) (by omega)]at hj
 have:=hr _ _ hj
 rwa [show o+((i+j / 4)*4+j % 4)=o+i*4+j by omega]at this
theorem ValsAt.lay {w:World} {b:Nat} {L:List V} (h:Row w b 72 (cellsV L)) (n:Nat) (hn:L.length=n):ValsAt w (some ⟨b,0,none⟩) n n L:=
 ⟨hn,Nat.le_refl _,fun _=> ⟨b,0,rfl,h.lt,h.range 0 _ (fun j v hj=> by rw [Nat.zero_add];exact hj)⟩⟩
def OwnVals (w:World) (B:Nat) (v:Value) (L:List V):Prop:=w.ownsRow B 72 4 v L.length (cellsV L)
theorem OwnVals.nil (w:World) (B:Nat):OwnVals w B (.slice none 0 0) []:=⟨rfl, .inl ⟨rfl,rfl⟩⟩
theorem OwnVals.kept {w w':World} {S:Nat→Prop} {B:Nat} {v:Value} {L:List V} (h:OwnVals w B v L) (k:Kept w w' S) (hS:∀b,v.ownBlock=some b→¬S b):OwnVals w' B v L:=by
 obtain ⟨hl,h1 | ⟨g,cap,cur,rfl,hg,hh,hn,hc,hs,ht⟩⟩:=h
 ·exact ⟨hl, .inl h1⟩
 ·exact ⟨hl, .inr ⟨g,cap,cur,rfl,hg,(k.block g (Array.getElem?_eq_some_iff.1 hh).1 (hS g rfl)).trans hh,hn,hc,hs,ht⟩⟩
theorem OwnVals.below {w w':World} {B:Nat} {v:Value} {L:List V} (h:OwnVals w B v L) (hb:Below w.heap.size w w'):OwnVals w' B v L:=h.kept (kept_below hb) (fun _ _ h=> h)
theorem OwnVals.mono {w:World} {B B':Nat} {v:Value} {L:List V} (h:OwnVals w B v L) (hB:B'≤B):OwnVals w B' v L:=by
 obtain ⟨hl,h1 | ⟨g,cap,cur,rfl,hg,rest⟩⟩:=h
 ·exact ⟨hl, .inl h1⟩
 ·exact ⟨hl, .inr ⟨g,cap,cur,rfl,Nat.le_trans hB hg,rest⟩⟩
theorem OwnVals.vals {w:World} {B:Nat} {v:Value} {L:List V} (h:OwnVals w B v L):∃(A:Option Addr) (c:Nat),v= .slice A L.length c∧ValsAt w A L.length c L∧(A=none→c=0)∧(∀a,A=some a→∃g,a=⟨g,0,none⟩∧B≤g∧g < w.heap.size)∧c≤maxLen:=by
 obtain ⟨hl,⟨rfl,h0⟩ | ⟨g,cap,cur,rfl,hg,hh,hn,hc,hs,ht⟩⟩:=h
 ·have:L=[]:=List.eq_nil_of_length_eq_zero h0
  subst this
  exact ⟨none,0,rfl,ValsAt.nil w _ _,fun _=> rfl,(fun a e=> by cases e),Nat.zero_le _⟩
 ·have hlt:=(Array.getElem?_eq_some_iff.1 hh).1
  refine ⟨some ⟨g,0,none⟩,cap,rfl,⟨rfl,hn,fun _=> ⟨g,0,rfl,hlt,fun j u hj=> ?_⟩⟩,(fun e=> by cases e),fun a e=> ⟨g,(Option.some.inj e).symm,hg,hlt⟩,hc⟩
  have hjl:=(List.getElem?_eq_some_iff.1 hj).1
  rw [cellsV_len]at hjl
  rw [cell_of_row _ _ _ _ _ _ hh,Nat.zero_add,←hj,←ht,List.getElem?_take,if_pos hjl]
  simp
theorem OwnVals.at_ {w:World} {B:Nat} {A:Option Addr} {n c:Nat} {L:List V} (h:OwnVals w B (.slice A n c) L):ValsAt w A n c L∧L.length=n:=by
 obtain ⟨A',c',e,h2,_⟩:=h.vals
 simp only [Value.slice.injEq]at e
 obtain ⟨rfl,rfl,rfl⟩:=e
 exact ⟨h2,rfl⟩
theorem OwnVals.got {w:World} {B:Nat} {v:Value} {L:List V} (h:OwnVals w B v L) (h0:0 < L.length):∃g c,v= .slice (some ⟨g,0,none⟩) L.length c∧B≤g∧g < w.heap.size∧L.length≤c:=by
 obtain ⟨hl,⟨rfl,h1⟩ | ⟨g,cap,cur,rfl,hg,hh,hn,hc,hs,ht⟩⟩:=h
 ·omega
 ·exact ⟨g,cap,rfl,hg,(Array.getElem?_eq_some_iff.1 hh).1,hn⟩
theorem OwnVals.unfrozen {w:World} {B g n c:Nat} {L:List V} (h:OwnVals w B (.slice (some ⟨g,0,none⟩) n c) L) (i:Nat):w.frozen? ⟨g,i,none⟩=false:=by
 obtain ⟨hl,⟨e,_⟩ | ⟨g',cap,cur,e,hg,hh,_⟩⟩:=h
 ·cases e
 ·simp only [Value.slice.injEq,Option.some.injEq,Addr.mk.injEq]at e
  obtain ⟨⟨rfl,_⟩,_,_⟩:=e
  simp [World.frozen?,hh]
theorem OwnVals.set {w:World} {B g n c:Nat} {L:List V} (h:OwnVals w B (.slice (some ⟨g,0,none⟩) n c) L) {i j:Nat} (hi:i < L.length) (hj:j < 4) {x:Value} {v:V} (hv:vv v=(vv L[i]).set j x):
  OwnVals (w.setCell ⟨g,i*4+j,none⟩ x) B (.slice (some ⟨g,0,none⟩) n c) (L.set i v):=by
 obtain ⟨hl,⟨e,_⟩ | ⟨g',cap,cur,e,hg,hh,hn,hc,hs,ht⟩⟩:=h
 ·cases e
 ·simp only [Value.slice.injEq,Option.some.injEq,Addr.mk.injEq]at e
  obtain ⟨⟨rfl,_⟩,rfl,rfl⟩:=e
  refine ⟨by rw [cellsV_len], .inr ⟨g,c,cur.setIfInBounds (i*4+j) x,by rw [List.length_set],hg,heap_setCell_same w g _ cur _ x hh,by rw [List.length_set];exact hn,hc,by simpa using hs, ?_⟩⟩
  rw [List.length_set,Array.toList_setIfInBounds,List.take_set,ht]
  apply List.ext_getElem?
  intro k
  rw [List.getElem?_set,cellsV_len]
  by_cases hk:k < L.length*4
  ·have ek:k=k / 4*4+k % 4:=by omega
   have h1:k / 4 < (L.set i v).length:=by rw [List.length_set];omega
   have e2:(cellsV (L.set i v))[k]? =(vv ((L.set i v)[k / 4]))[k % 4]? :=by
    conv=> lhs;rw [ek]
    exact cellsV_at _ _ _ h1 (by omega)
   have e3:(cellsV L)[k]? =(vv (L[k / 4]'(by omega)))[k % 4]? :=by
    conv=> lhs;rw [ek]
    exact cellsV_at _ _ _ _ (by omega)
   rw [e2]
   by_cases hki:i*4+j=k
   ·have h4:k / 4=i:=by omega
    have h5:k % 4=j:=by omega
    rw [if_pos hki,if_pos (by omega),h5]
    have:(L.set i v)[k / 4]=v:=by simp [h4]
    rw [this,hv,List.getElem?_set_self (by exact hj)]
   ·rw [if_neg hki,e3]
    by_cases h4:i=k / 4
    ·have:(L.set i v)[k / 4]=v:=by simp [h4]
     rw [this,hv,List.getElem?_set,if_neg (by omega)]
     simp only [h4]
    ·rw [List.getElem_set,if_neg h4]
  ·have e1:(cellsV L)[k]? =none:=List.getElem?_eq_none (by rw [cellsV_len];omega)
   have e2:(cellsV (L.set i v))[k]? =none:=List.getElem?_eq_none (by rw [cellsV_len,List.length_set];omega)
   rw [if_neg (by omega),e1,e2]
theorem js_infoZ:∃i,Tryz.prog.info? 72=some i∧i.zero=some (.agg #[.int .i64 0, .string ⟨#[]⟩, .string ⟨#[]⟩, .int .i64 0])∧i.size=4∧i.bytes=48:=by
 have h:(Tryz.prog.info? 72).map (fun i=> (i.zero,i.size,i.bytes))=some (some (.agg #[.int .i64 0, .string ⟨#[]⟩, .string ⟨#[]⟩, .int .i64 0]),4,48):=by kernel_rfl
 obtain ⟨i,hi,hz⟩:=Option.map_eq_some_iff.1 h
 simp only [Prod.mk.injEq]at hz
 exact ⟨i,hi,hz.1,hz.2.1,hz.2.2⟩
theorem append_vals {w:World} {ops:Array Oper} {rest:List Oper} {o:Oper} {a:Act} {Q:Exit→Act→World→Prop} (hg:o.guard=none) (s x:Operand)
  (ho:o.op= .call {callee:= .builtin .append,args:=#[s,x],argTypes:=#[26,26]}) (B:Nat) (v:Value) (L:List V) (hs:a.eval s=v) (hown:OwnVals w B v L)
  (ad:Addr) (n c:Nat) (M:List V) (hx:a.eval x= .slice (some ad) n c) (hsrc:ValsAt w (some ad) n c M) (hb:L.length+n≤1000000000000) (hB:B≤w.heap.size)
  (h:∀v' w',Hid (OwnVals w' B v' (L++M))→Hid (Kept w w' (fun k=> B≤k∧v.ownBlock=some k))→Hid (∀k,v'.ownBlock=some k→v.ownBlock=some k∨w.heap.size≤k)→wpList Tryz.prog ops Q rest (a.put o.dst v') w'):wpList Tryz.prog ops Q (o::rest) a w:=by
 obtain ⟨i,hi,hz,hsz,hby⟩:=js_infoZ
 have hlen:=hsrc.len
 have hnews:∀j u,(cellsV M)[j]? =some u→w.cell? (ad.add j)=some u:=by
  intro j u hj
  have hjl:=(List.getElem?_eq_some_iff.1 hj).1
  rw [cellsV_len]at hjl
  obtain ⟨b,off,e,_,hr⟩:=hsrc.at_ (by omega)
  simp only [Option.some.injEq]at e
  subst e
  rw [Addr.add_mid]
  exact hr j u hj
 obtain ⟨v',w',hr,h2,h3,h4,h5⟩:=run_append_own_at (P:=Tryz.prog) w B 26 o.type 72 i (.agg #[.int .i64 0, .string ⟨#[]⟩, .string ⟨#[]⟩, .int .i64 0]) 4 48 Tryz.underlying26 hi hz hsz hby rfl (by decide) v L.length (cellsV L) hown ad n c (cellsV M)
  (by rw [cellsV_len,hlen]) hnews (cellsV_one M) (by unfold maxLen;omega) (by omega) hB
 refine wpList_wanted (by simp [Region.wanted,hg]) fun K hK=> ?_
 unfold Oper.wp execOp
 simp only [ho,resolve,invoke,builtin,Sem.run_bind,Sem.run_pure,Result.andThen_ok,List.map_toArray,List.map_cons,List.map_nil,hs,hx,hr]
 refine hK _ _ (h v' w' ?_ ?_ ?_)
 ·show w'.ownsRow B _ 4 v' (L++M).length (cellsV (L++M))
  rw [List.length_append,hlen,cellsV_app]
  exact h2
 ·refine ⟨h3.os,h3.tape,h3.output,h3.size,fun k hk hn=> h3.block k hk (fun e=> hn ?_)⟩
  obtain ⟨_,⟨rfl,_⟩ | ⟨g,cap,cur,rfl,hg,_⟩⟩:=hown
  ·cases e
  ·have e':g=k:=by simpa [Value.ownBlock] using e.symm
   subst e'
   exact ⟨hg,rfl⟩
 ·intro k hk
  rcases h5 with h5 | h5
  ·exact .inl (h5▸hk)
  ·rw [h5]at hk
   exact .inr (Nat.le_of_eq (Option.some.inj hk))
end Go.Proofs.YtgmangikcfakgaaGreatDoor
