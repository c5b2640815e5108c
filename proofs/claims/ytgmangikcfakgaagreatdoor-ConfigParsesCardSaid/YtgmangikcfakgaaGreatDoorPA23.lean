import Derived.Test.YtgmangikcfakgaaGreatDoorPA22
import Derived.Great.FillDense
import Derived.Test.YtgmangikcfakgaaGreatDoorPA7
set_option maxRecDepth 100000
set_option maxHeartbeats 40000000
namespace Go.Proofs.YtgmangikcfakgaaGreatDoor
open Go.RowKit Sh Jt Js Jo
namespace Jo
structure Pe where
 who:List UInt8
 empty:Bool
 rest:Pc
instance:Inhabited Pe:=⟨⟨[],false,default⟩⟩
def Pe.hist (p:Pe):Hist:=⟨p.who,p.empty,p.rest.row⟩
def Pe.enc (p:Pe):List Value:=[.string (sb p.who), .bool p.empty,p.rest.enc]
def histsOf (Q:List Pe):List Hist:=Q.map Pe.hist
def cellsE (Q:List Pe):List Value:=Q.flatMap Pe.enc
theorem qkn:∀Q:List Pe,(cellsE Q).length=Q.length*3
 | []=> rfl
 | p::Q=> by
  show (p.enc++cellsE Q).length=_
  rw [List.length_append,qkn Q,List.length_cons];show 3+_=_
  omega
theorem qun (a b:List Pe):cellsE (a++b)=cellsE a++cellsE b:=by simp [cellsE]
theorem qnr:∀(Q:List Pe) (i j:Nat) (hi:i < Q.length),j < 3→(cellsE Q)[i*3+j]? =(Q[i].enc)[j]?
 | p::Q,0,j,_,hj=> by
  show (p.enc++cellsE Q)[0*3+j]? =_
  rw [Nat.zero_mul,Nat.zero_add,List.getElem?_append_left (show j < 3 from hj)];rfl
 | p::Q,i+1,j,hi,hj=> by
  show (p.enc++cellsE Q)[(i+1)*3+j]? =_
  have hl:p.enc.length=3:=rfl
  rw [List.getElem?_append_right (by omega),hl,show (i+1)*3+j - 3=i*3+j by omega,qnr Q i j (by simpa using hi) hj];rfl
theorem qtv (Q:List Pe):∀v∈cellsE Q,v.oneCell'=true:=by
 intro v hv
 obtain ⟨p,_,hp⟩:=List.mem_flatMap.1 hv
 rcases List.mem_cons.1 hp with rfl | hp
 ·rfl
 rcases List.mem_cons.1 hp with rfl | hp
 ·rfl
 rw [List.mem_singleton.1 hp]
 rfl
def cellsG (G:List (List UInt8)):List Value:=G.flatMap fun g=> g.map v8
def Dig32G (G:List (List UInt8)):Prop:=∀g∈G,g.length=32
theorem Dig32G.tail {g:List UInt8} {G:List (List UInt8)} (h:Dig32G (g::G)):Dig32G G:=fun x hx=> h x (List.mem_cons_of_mem _ hx)
theorem Dig32G.app {L M:List (List UInt8)} (h:Dig32G L) (h2:Dig32G M):Dig32G (L++M):=fun x hx=> (List.mem_append.1 hx).elim (h x) (h2 x)
theorem qex:∀ {G:List (List UInt8)},Dig32G G→(cellsG G).length=G.length*32
 | [],_=> rfl
 | g::G,h=> by
  show (g.map v8++cellsG G).length=_
  rw [List.length_append,List.length_map,h g List.mem_cons_self,qex h.tail,List.length_cons];omega
theorem qtl (a b:List (List UInt8)):cellsG (a++b)=cellsG a++cellsG b:=by simp [cellsG]
theorem qmi:∀ {G:List (List UInt8)},Dig32G G→∀(i j:Nat) (hi:i < G.length),j < 32→(cellsG G)[i*32+j]? =(G[i].map v8)[j]?
 | g::G,h,0,j,_,hj=> by
  show (g.map v8++cellsG G)[0*32+j]? =_
  rw [Nat.zero_mul,Nat.zero_add,List.getElem?_append_left (by rw [List.length_map,h g List.mem_cons_self];exact hj)]
  rfl
 | g::G,h,i+1,j,hi,hj=> by
  show (g.map v8++cellsG G)[(i+1)*32+j]? =_
  have hl:(g.map v8).length=32:=by rw [List.length_map,h g List.mem_cons_self]
  rw [List.getElem?_append_right (by omega),hl,show (i+1)*32+j - 32=i*32+j by omega,qmi h.tail i j (by simpa using hi) hj];rfl
theorem qte (G:List (List UInt8)):∀v∈cellsG G,v.oneCell'=true:=by
 intro v hv
 obtain ⟨g,_,hg⟩:=List.mem_flatMap.1 hv
 obtain ⟨x,_,rfl⟩:=List.mem_map.1 hg
 rfl
end Jo
structure GsAt (w:World) (A:Option Addr) (n c:Nat) (G:List (List UInt8)):Prop where
 len:G.length=n
 cap:n≤c
 dig:Dig32G G
 at_:0 < n→∃b o,A=some ⟨b,o,none⟩∧b < w.heap.size∧w.rangeAt b o (cellsG G)
theorem GsAt.nil (w:World) (A:Option Addr) (c:Nat):GsAt w A 0 c []:=⟨rfl,Nat.zero_le _,fun _ h=> (by cases h),fun h=> absurd h (by decide)⟩
theorem GsAt.kept {w w':World} {S:Nat→Prop} {A:Option Addr} {n c:Nat} {L:List (List UInt8)} (h:GsAt w A n c L) (k:Kept w w' S) (hS:∀b o,A=some ⟨b,o,none⟩→b < w.heap.size→¬S b):GsAt w' A n c L:=
 ⟨h.len,h.cap,h.dig,fun hn=> by
  obtain ⟨b,o,e,hlt,hr⟩:=h.at_ hn
  exact ⟨b,o,e,Nat.lt_of_lt_of_le hlt k.size,qbd hr k (hS b o e hlt)⟩⟩
theorem GsAt.below {w w':World} {A:Option Addr} {n c:Nat} {L:List (List UInt8)} (h:GsAt w A n c L) (hb:Below w.heap.size w w'):GsAt w' A n c L:=
 h.kept (qad hb) (fun _ _ _ _ h=> h)
theorem GsAt.one {w:World} {b o n c:Nat} {L:List (List UInt8)} (h:GsAt w (some ⟨b,o,none⟩) n c L) {i:Nat} (hi:i < L.length):w.rangeAt b (o+i*32) (L[i].map v8):=by
 obtain ⟨b',o',e,_,hr⟩:=h.at_ (by have:=h.len;omega)
 cases e
 intro j v hj
 have hj32:j < 32:=by
  have:=(List.getElem?_eq_some_iff.1 hj).1
  rwa [List.length_map,h.dig _ (List.getElem_mem hi)]at this
 rw [Nat.add_assoc]
 exact hr _ _ (by rw [qmi h.dig i j hi hj32];exact hj)
structure OwnGs (w:World) (B:Nat) (v:Value) (L:List (List UInt8)):Prop where
 dig:Dig32G L
 row:w.ownsRow B 52 32 v L.length (cellsG L)
theorem OwnGs.nil (w:World) (B:Nat):OwnGs w B (.slice none 0 0) []:=⟨fun _ h=> (by cases h),rfl, .inl ⟨rfl,rfl⟩⟩
theorem OwnGs.kept {w w':World} {S:Nat→Prop} {B:Nat} {v:Value} {L:List (List UInt8)} (h:OwnGs w B v L) (k:Kept w w' S) (hS:∀b,v.ownBlock=some b→¬S b):OwnGs w' B v L:=by
 obtain ⟨hd,hl,h1 | ⟨g,cap,cur,rfl,hg,hh,hn,hc,hs,ht⟩⟩:=h
 ·exact ⟨hd,hl, .inl h1⟩
 ·exact ⟨hd,hl, .inr ⟨g,cap,cur,rfl,hg,(k.block g (Array.getElem?_eq_some_iff.1 hh).1 (hS g rfl)).trans hh,hn,hc,hs,ht⟩⟩
theorem OwnGs.below {w w':World} {B:Nat} {v:Value} {L:List (List UInt8)} (h:OwnGs w B v L) (hb:Below w.heap.size w w'):OwnGs w' B v L:=h.kept (qad hb) (fun _ _ h=> h)
theorem OwnGs.mono {w:World} {B B':Nat} {v:Value} {L:List (List UInt8)} (h:OwnGs w B v L) (hB:B'≤B):OwnGs w B' v L:=by
 obtain ⟨hd,hl,h1 | ⟨g,cap,cur,rfl,hg,rest⟩⟩:=h
 ·exact ⟨hd,hl, .inl h1⟩
 ·exact ⟨hd,hl, .inr ⟨g,cap,cur,rfl,Nat.le_trans hB hg,rest⟩⟩
theorem OwnGs.gs {w:World} {B:Nat} {v:Value} {L:List (List UInt8)} (h:OwnGs w B v L):∃(A:Option Addr) (c:Nat),v= .slice A L.length c∧GsAt w A L.length c L∧(A=none→c=0)∧(∀a,A=some a→∃g,a=⟨g,0,none⟩∧B≤g∧g < w.heap.size)∧c≤maxLen:=by
 obtain ⟨hd,hl,⟨rfl,h0⟩ | ⟨g,cap,cur,rfl,hg,hh,hn,hc,hs,ht⟩⟩:=h
 ·have:L=[]:=List.eq_nil_of_length_eq_zero h0
  subst this;exact ⟨none,0,rfl,GsAt.nil w _ _,fun _=> rfl,(fun a e=> by cases e),Nat.zero_le _⟩
 ·have hlt:=(Array.getElem?_eq_some_iff.1 hh).1
  refine ⟨some ⟨g,0,none⟩,cap,rfl,⟨rfl,hn,hd,fun _=> ⟨g,0,rfl,hlt,fun j u hj=> ?_⟩⟩,(fun e=> by cases e),fun a e=> ⟨g,(Option.some.inj e).symm,hg,hlt⟩,hc⟩
  have hjl:=(List.getElem?_eq_some_iff.1 hj).1
  rw [qex hd]at hjl
  rw [cell_of_row _ _ _ _ _ _ hh,Nat.zero_add,←hj,←ht,List.getElem?_take,if_pos hjl];simp
theorem qpt:∃i z,Tryz.prog.info? 52=some i∧i.zero=some z∧i.size=32∧i.bytes=32∧z.cells.size=32:=by
 have h:(Tryz.prog.info? 52).map (fun i=> (i.zero.map (fun z=> z.cells.size),i.size,i.bytes))=some (some 32,32,32):=by kernel_rfl
 obtain ⟨i,hi,hz⟩:=Option.map_eq_some_iff.1 h
 simp only [Prod.mk.injEq]at hz
 obtain ⟨z,h1,h2⟩:=Option.map_eq_some_iff.1 hz.1
 exact ⟨i,z,hi,h1,hz.2.1,hz.2.2,h2⟩
theorem qdc:(Tryz.prog.info? 52).map (·.size)=some 32:=by kernel_rfl
theorem qai:(Tryz.prog.info? 42).map (·.size)=some 3:=by kernel_rfl
theorem qah:(Tryz.prog.info? 28).map (·.size)=some 3:=by kernel_rfl
theorem qgt {ops:Array Oper} {rest:List Oper} {o:Oper} {a:Act} {w:World} {Q:Exit→Act→World→Prop} (hg:o.guard=none) (x:Operand) (ho:o.op= .buildSlice 24 1 #[(0,x)]) (g:List UInt8) (C:Array Value) (hC:C=(g.map v8).toArray) (hd:g.length=32) (hx:a.eval x= .agg C)
  (h:wpList Tryz.prog ops Q rest (a.put o.dst (.slice (some ⟨w.heap.size,0,none⟩) 1 1)) (w.alloc (.cells C 52))):wpList Tryz.prog ops Q (o::rest) a w:=by
 subst hC
 obtain ⟨i,z,hi,hz,hsz,_,hzc⟩:=qpt
 refine wpList_buildSlice hg 24 52 1 #[(0,x)] ho (g.map v8).toArray i z Tryz.underlying24 hi hz (by rw [hsz];decide) (by rw [hsz];decide) ?_ h
 rw [hsz]
 have e:(Array.map (fun (p:Nat×Operand)=> (p.1,a.eval p.2)) #[(0,x)]).toList=(([g].map fun e=> Value.agg (e.map v8).toArray).zipIdx 0).map fun x=> (x.2,x.1):=by simp [hx]
 show Instr.fill _ _ (Array.map (fun (p:Nat×Operand)=> (p.1,a.eval p.2)) #[(0,x)]).toList=_
 rw [e]
 rw [Great.fill_whole (s:=32) (by decide) _ _ (fun v hv=> by
  obtain ⟨e,he,rfl⟩:=List.mem_map.1 hv
  rw [List.mem_singleton.1 he];show (g.map v8).toArray.size=32
  rw [List.size_toArray,List.length_map,hd]) (by simp),List.flatMap_map]
 show some (g.map v8++[]).toArray=_
 rw [List.append_nil]
theorem qjp (w:World) {g:List UInt8} (h:g.length=32) {C:Array Value} (hC:C=(g.map v8).toArray):GsAt (w.alloc (.cells C 52)) (some ⟨w.heap.size,0,none⟩) 1 1 [g]:=by
 subst hC
 refine ⟨rfl,Nat.le_refl _,fun x hx=> by rw [List.mem_singleton.1 hx];exact h,fun _=> ⟨w.heap.size,0,rfl,by simp,fun j u hj=> ?_⟩⟩
 have e:cellsG [g]=g.map v8:=by
  show g.map v8++[]=g.map v8
  rw [List.append_nil]
 rw [e]at hj
 rw [cell_of_row _ _ _ _ _ _ (heap_alloc_new w _),Nat.zero_add]
 simpa using hj
theorem qmq {w:World} {ops:Array Oper} {rest:List Oper} {o:Oper} {a:Act} {Q:Exit→Act→World→Prop} (hg:o.guard=none) (s x:Operand)
  (ho:o.op= .call {callee:= .builtin .append,args:=#[s,x],argTypes:=#[24,24]}) (B:Nat) (v:Value) (L:List (List UInt8)) (hs:a.eval s=v) (hown:OwnGs w B v L)
  (ad:Addr) (n c:Nat) (M:List (List UInt8)) (hx:a.eval x= .slice (some ad) n c) (hsrc:GsAt w (some ad) n c M) (hb:L.length+n≤100000000000) (hB:B≤w.heap.size)
  (h:∀v' w',Hid (OwnGs w' B v' (L++M))→Hid (Kept w w' (fun k=> B≤k∧v.ownBlock=some k))→Hid (∀k,v'.ownBlock=some k→v.ownBlock=some k∨w.heap.size≤k)→wpList Tryz.prog ops Q rest (a.put o.dst v') w'):wpList Tryz.prog ops Q (o::rest) a w:=by
 obtain ⟨i,z,hi,hz,hsz,hby,hzc⟩:=qpt
 have hlen:=hsrc.len
 have hnews:∀j u,(cellsG M)[j]? =some u→w.cell? (ad.add j)=some u:=by
  intro j u hj;have hjl:=(List.getElem?_eq_some_iff.1 hj).1
  rw [qex hsrc.dig]at hjl
  obtain ⟨b,off,e,_,hr⟩:=hsrc.at_ (by omega)
  simp only [Option.some.injEq]at e
  subst e;rw [Addr.add_mid];exact hr j u hj
 obtain ⟨v',w',hr,h2,h3,h4,h5⟩:=run_append_own_at (P:=Tryz.prog) w B 24 o.type 52 i z 32 32 Tryz.underlying24 hi hz hsz hby hzc (by decide) v L.length (cellsG L) hown.row ad n c (cellsG M)
  (by rw [qex hsrc.dig,hlen]) hnews (qte M) (by unfold maxLen;omega) (by omega) hB
 refine qa5 (by simp [Region.wanted,hg]) fun K hK=> ?_
 unfold Oper.wp execOp
 simp only [ho,resolve,invoke,builtin,Sem.run_bind,Sem.run_pure,Result.andThen_ok,List.map_toArray,List.map_cons,List.map_nil,hs,hx,hr]
 refine hK _ _ (h v' w' ?_ ?_ ?_)
 ·refine ⟨hown.dig.app hsrc.dig, ?_⟩
  rw [List.length_append,hlen,qtl];exact h2
 ·refine ⟨h3.os,h3.tape,h3.output,h3.size,fun k hk hn=> h3.block k hk (fun e=> hn ?_)⟩
  obtain ⟨_,_,⟨rfl,_⟩ | ⟨g,cap,cur,rfl,hg,_⟩⟩:=hown
  ·cases e
  ·have e':g=k:=by simpa [Value.ownBlock] using e.symm
   subst e'
   exact ⟨hg,rfl⟩
 ·intro k hk
  rcases h5 with h5 | h5
  ·exact .inl (h5▸hk)
  ·rw [h5]at hk
   exact .inr (Nat.le_of_eq (Option.some.inj hk))
structure HistsAt (w:World) (A:Option Addr) (n c:Nat) (Q:List Pe):Prop where
 len:Q.length=n
 cap:n≤c
 at_:0 < n→∃b o,A=some ⟨b,o,none⟩∧b < w.heap.size∧w.rangeAt b o (cellsE Q)
 ins:∀p∈Q,ValsAt w p.rest.at_ p.rest.row.length p.rest.cap p.rest.row
theorem HistsAt.nil (w:World) (A:Option Addr) (c:Nat):HistsAt w A 0 c []:=⟨rfl,Nat.zero_le _,(fun h=> absurd h (by decide)),fun _ h=> by cases h⟩
theorem HistsAt.below {w w':World} {A:Option Addr} {n c:Nat} {Q:List Pe} (h:HistsAt w A n c Q) (hb:Below w.heap.size w w'):HistsAt w' A n c Q:=
 ⟨h.len,h.cap,fun h0=> by
  obtain ⟨b,o,e,hlt,hr⟩:=h.at_ h0
  exact ⟨b,o,e,Nat.lt_of_lt_of_le hlt hb.size,qbd hr (qad hb) (fun h=> h)⟩,fun p hp=> (h.ins p hp).below hb⟩
theorem HistsAt.kept {w w':World} {S:Nat→Prop} {A:Option Addr} {n c:Nat} {Q:List Pe} (h:HistsAt w A n c Q) (k:Kept w w' S) (hS:∀b o,A=some ⟨b,o,none⟩→b < w.heap.size→¬S b) (hI:∀p∈Q,∀b o,p.rest.at_=some ⟨b,o,none⟩→b < w.heap.size→¬S b):HistsAt w' A n c Q:=
 ⟨h.len,h.cap,fun h0=> by
  obtain ⟨b,o,e,hlt,hr⟩:=h.at_ h0
  exact ⟨b,o,e,Nat.lt_of_lt_of_le hlt k.size,qbd hr k (hS b o e hlt)⟩,fun p hp=> (h.ins p hp).kept k (hI p hp)⟩
theorem HistsAt.one {w:World} {b o n c:Nat} {Q:List Pe} (h:HistsAt w (some ⟨b,o,none⟩) n c Q) {i:Nat} (hi:i < Q.length):w.rangeAt b (o+i*3) Q[i].enc:=by
 obtain ⟨b',o',e,_,hr⟩:=h.at_ (by have:=h.len;omega)
 cases e
 intro j v hj
 have hj3:j < 3:=(List.getElem?_eq_some_iff.1 hj).1
 rw [Nat.add_assoc]
 exact hr _ _ (by rw [qnr Q i j hi hj3];exact hj)
theorem HistsAt.cells {w:World} {b o n c:Nat} {Q:List Pe} (h:HistsAt w (some ⟨b,o,none⟩) n c Q) {i:Nat} (hi:i < Q.length):
  w.cell? ⟨b,o+i*3,none⟩=some (.string (sb Q[i].who))∧w.cell? ⟨b,o+i*3+1,none⟩=some (.bool Q[i].empty)∧w.cell? ⟨b,o+i*3+2,none⟩=some Q[i].rest.enc:=
 ⟨h.one hi 0 _ rfl,h.one hi 1 _ rfl,h.one hi 2 _ rfl⟩
structure OwnHists (w:World) (B:Nat) (v:Value) (Q:List Pe):Prop where
 row:w.ownsRow B 42 3 v Q.length (cellsE Q)
 ins:∀p∈Q,ValsAt w p.rest.at_ p.rest.row.length p.rest.cap p.rest.row
 far:∀p∈Q,∀b o,p.rest.at_=some ⟨b,o,none⟩→b < w.heap.size∧v.ownBlock≠some b
 base:∀p∈Q,∀b o,p.rest.at_=some ⟨b,o,none⟩→B≤b
theorem OwnHists.nil (w:World) (B:Nat):OwnHists w B (.slice none 0 0) []:=⟨⟨rfl, .inl ⟨rfl,rfl⟩⟩,(fun p h=> by cases h),(fun p h=> by cases h),fun p h=> by cases h⟩
theorem OwnHists.below {w w':World} {B:Nat} {v:Value} {Q:List Pe} (h:OwnHists w B v Q) (hb:Below w.heap.size w w'):OwnHists w' B v Q:=by
 refine ⟨?_,fun p hp=> (h.ins p hp).below hb,fun p hp b o e=> ⟨Nat.lt_of_lt_of_le (h.far p hp b o e).1 hb.size,(h.far p hp b o e).2⟩,h.base⟩
 obtain ⟨hl,h1 | ⟨g,cap,cur,rfl,hg,hh,hn,hc,hs,ht⟩⟩:=h.row
 ·exact ⟨hl, .inl h1⟩
 ·exact ⟨hl, .inr ⟨g,cap,cur,rfl,hg,(hb.block g (Array.getElem?_eq_some_iff.1 hh).1).trans hh,hn,hc,hs,ht⟩⟩
theorem OwnHists.mono {w:World} {B B':Nat} {v:Value} {Q:List Pe} (h:OwnHists w B v Q) (hB:B'≤B):OwnHists w B' v Q:=by
 refine ⟨?_,h.ins,h.far,fun p hp b o e=> Nat.le_trans hB (h.base p hp b o e)⟩
 obtain ⟨hl,h1 | ⟨g,cap,cur,rfl,hg,rest⟩⟩:=h.row
 ·exact ⟨hl, .inl h1⟩
 ·exact ⟨hl, .inr ⟨g,cap,cur,rfl,Nat.le_trans hB hg,rest⟩⟩
theorem OwnHists.hists {w:World} {B:Nat} {v:Value} {Q:List Pe} (h:OwnHists w B v Q):∃(A:Option Addr) (c:Nat),v= .slice A Q.length c∧HistsAt w A Q.length c Q∧∀b o,A=some ⟨b,o,none⟩→B≤b:=by
 obtain ⟨hl,⟨rfl,h0⟩ | ⟨g,cap,cur,rfl,hg,hh,hn,hc,hs,ht⟩⟩:=h.row
 ·have:Q=[]:=List.eq_nil_of_length_eq_zero h0
  subst this;exact ⟨none,0,rfl,HistsAt.nil w _ _,fun b o e=> by cases e⟩
 ·have hlt:=(Array.getElem?_eq_some_iff.1 hh).1
  refine ⟨some ⟨g,0,none⟩,cap,rfl,⟨rfl,hn,fun _=> ⟨g,0,rfl,hlt,fun j u hj=> ?_⟩,h.ins⟩,fun b o e=> by cases e;exact hg⟩
  have hjl:=(List.getElem?_eq_some_iff.1 hj).1
  rw [qkn]at hjl
  rw [cell_of_row _ _ _ _ _ _ hh,Nat.zero_add,←hj,←ht,List.getElem?_take,if_pos (by omega)];simp
theorem qke:∃i z,Tryz.prog.info? 42=some i∧i.zero=some z∧i.size=3∧i.bytes=48∧z.cells.size=3:=by
 have h:(Tryz.prog.info? 42).map (fun i=> (i.zero.map (fun z=> z.cells.size),i.size,i.bytes))=some (some 3,3,48):=by kernel_rfl
 obtain ⟨i,hi,hz⟩:=Option.map_eq_some_iff.1 h
 simp only [Prod.mk.injEq]at hz
 obtain ⟨z,h1,h2⟩:=Option.map_eq_some_iff.1 hz.1
 exact ⟨i,z,hi,h1,hz.2.1,hz.2.2,h2⟩
theorem qjb {ops:Array Oper} {rest:List Oper} {o:Oper} {a:Act} {w:World} {Q:Exit→Act→World→Prop} (hg:o.guard=none) (x:Operand) (ho:o.op= .buildSlice 25 1 #[(0,x)]) (x0 x1 x2:Value) (hx:a.eval x= .agg #[x0,x1,x2])
  (h:wpList Tryz.prog ops Q rest (a.put o.dst (.slice (some ⟨w.heap.size,0,none⟩) 1 1)) (w.alloc (.cells #[x0,x1,x2] 42))):wpList Tryz.prog ops Q (o::rest) a w:=by
 obtain ⟨i,z,hi,hz,hsz,_,hzc⟩:=qke
 refine wpList_buildSlice hg 25 42 1 #[(0,x)] ho #[x0,x1,x2] i z Tryz.underlying25 hi hz (by rw [hsz];decide) (by rw [hsz];decide) ?_ h
 rw [hsz]
 have e:(Array.map (fun (p:Nat×Operand)=> (p.1,a.eval p.2)) #[(0,x)]).toList=(([[x0,x1,x2]].map fun (e:List Value)=> Value.agg e.toArray).zipIdx 0).map fun x=> (x.2,x.1):=by simp [hx]
 show Instr.fill _ _ (Array.map (fun (p:Nat×Operand)=> (p.1,a.eval p.2)) #[(0,x)]).toList=_
 rw [e]
 rw [Great.fill_whole (s:=3) (by decide) _ _ (fun v hv=> by
  obtain ⟨e,he,rfl⟩:=List.mem_map.1 hv
  rw [List.mem_singleton.1 he];rfl) (by simp),List.flatMap_map]
 rfl
theorem qh5 {w:World} {ops:Array Oper} {rest:List Oper} {o:Oper} {a:Act} {Q:Exit→Act→World→Prop} (hg:o.guard=none) (s x:Operand)
  (ho:o.op= .call {callee:= .builtin .append,args:=#[s,x],argTypes:=#[25,25]}) (B:Nat) (v:Value) (P:List Pe) (hs:a.eval s=v) (hown:OwnHists w B v P)
  (q:Nat) (p:Pe) (hx:a.eval x= .slice (some ⟨q,0,none⟩) 1 1) (hcell:w.rangeAt q 0 p.enc) (hp:ValsAt w p.rest.at_ p.rest.row.length p.rest.cap p.rest.row) (hfar:∀b o,p.rest.at_=some ⟨b,o,none⟩→B≤b∧b < w.heap.size∧v.ownBlock≠some b) (hb:P.length≤1000000000) (hB:B≤w.heap.size)
  (h:∀v' w',Hid (OwnHists w' B v' (P++[p]))→Hid (Kept w w' (fun k=> B≤k∧v.ownBlock=some k))→wpList Tryz.prog ops Q rest (a.put o.dst v') w'):wpList Tryz.prog ops Q (o::rest) a w:=by
 obtain ⟨i,z,hi,hz,hsz,hby,hzc⟩:=qke
 have hnews:∀j u,p.enc[j]? =some u→w.cell? ((⟨q,0,none⟩:Addr).add j)=some u:=by
  intro j u hj;rw [Addr.add_mid];exact hcell j u hj
 obtain ⟨v',w',hr,h2,h3,h4,h5⟩:=run_append_own_at (P:=Tryz.prog) w B 25 o.type 42 i z 3 48 Tryz.underlying25 hi hz hsz hby hzc (by decide) v P.length (cellsE P) hown.row ⟨q,0,none⟩ 1 1 p.enc
  rfl hnews (fun v hv=> qtv [p] v (by show v∈p.enc++[];rw [List.append_nil];exact hv)) (by unfold maxLen;omega) (by omega) hB
 refine qa5 (by simp [Region.wanted,hg]) fun K hK=> ?_
 unfold Oper.wp execOp
 simp only [ho,resolve,invoke,builtin,Sem.run_bind,Sem.run_pure,Result.andThen_ok,List.map_toArray,List.map_cons,List.map_nil,hs,hx,hr]
 have hk:Kept w w' (fun k=> B≤k∧v.ownBlock=some k):=by
  refine ⟨h3.os,h3.tape,h3.output,h3.size,fun k hk hn=> h3.block k hk (fun e=> hn ?_)⟩
  obtain ⟨_,⟨rfl,_⟩ | ⟨g,cap,cur,rfl,hg,_⟩⟩:=hown.row
  ·cases e
  ·have e':g=k:=by simpa [Value.ownBlock] using e.symm
   subst e'
   exact ⟨hg,rfl⟩
 have each:∀r∈P++[p],ValsAt w r.rest.at_ r.rest.row.length r.rest.cap r.rest.row∧∀b o,r.rest.at_=some ⟨b,o,none⟩→B≤b∧b < w.heap.size∧v.ownBlock≠some b:=fun r hr=> by
  rcases List.mem_append.1 hr with hr | hr
  ·exact ⟨hown.ins r hr,fun b o e=> ⟨hown.base r hr b o e,hown.far r hr b o e⟩⟩
  ·rw [List.mem_singleton.1 hr]
   exact ⟨hp,hfar⟩
 refine hK _ _ (h v' w' (Qh ⟨?_,fun r hr=> ?_,fun r hr b o e=> ?_,fun r hr b o e=> ((each r hr).2 b o e).1⟩) hk)
 ·rw [List.length_append,qun,show cellsE [p]=p.enc from List.append_nil _]
  exact h2
 ·exact (each r hr).1.kept hk (fun b o e _ hb=> ((each r hr).2 b o e).2.2 hb.2)
 ·obtain ⟨-,f1,f2⟩:=(each r hr).2 b o e
  refine ⟨Nat.lt_of_lt_of_le f1 h3.size,fun e2=> ?_⟩
  rcases h5 with h5 | h5
  ·rw [h5]at e2
   exact f2 e2
  ·rw [h5]at e2
   have:=Option.some.inj e2
   omega
structure ConfIn (w:World) (c:Cfg) (Q:List Pe) (A1:Option Addr) (n1 c1:Nat) (A2:Option Addr) (n2 c2:Nat) (A3:Option Addr) (n3 c3:Nat):Prop where
 ids:GsAt w A1 n1 c1 c.ids
 hist:HistsAt w A2 n2 c2 Q
 same:histsOf Q=c.hist
 rest:ValsAt w A3 n3 c3 c.rest
theorem ConfIn.below {w w':World} {c:Cfg} {Q:List Pe} {A1:Option Addr} {n1 c1:Nat} {A2:Option Addr} {n2 c2:Nat} {A3:Option Addr} {n3 c3:Nat} (h:ConfIn w c Q A1 n1 c1 A2 n2 c2 A3 n3 c3) (k:Below w.heap.size w w'):ConfIn w' c Q A1 n1 c1 A2 n2 c2 A3 n3 c3:=⟨h.ids.below k,h.hist.below k,h.same,h.rest.below k⟩
theorem qtb (s:List UInt8) (b:Bool) (A:Option Addr) (n c:Nat):Tryz.prog.built 42 [(0, .string (sb s)),(1, .bool b),(2, .slice A n c)]=some #[.string (sb s), .bool b, .slice A n c]:=by
 generalize sb s=t
 kernel_rfl
theorem qep (A1:Option Addr) (n1 c1:Nat) (A2:Option Addr) (n2 c2:Nat) (A3:Option Addr) (n3 c3:Nat):Tryz.prog.built 28 [(0, .slice A1 n1 c1),(1, .slice A2 n2 c2),(2, .slice A3 n3 c3)]=some #[.slice A1 n1 c1, .slice A2 n2 c2, .slice A3 n3 c3]:=by kernel_rfl
theorem qb6:Tryz.prog.built 42 []=some #[.string ⟨#[]⟩, .bool false, .slice none 0 0]:=by kernel_rfl
theorem qa9:Tryz.prog.built 28 []=some #[.slice none 0 0, .slice none 0 0, .slice none 0 0]:=by kernel_rfl
namespace Jo
theorem q2r {L:List V} {key:List UInt8}:ofKey L key=[]↔getA L 0 key=none:=by
 constructor
 ·intro h
  cases hg:getA L 0 key with
  | none=> rfl
  | some p=>
   obtain ⟨hp,h1,h2⟩:=qbb hg
   have hO:isO L=true:=by
    unfold getA at hg;split at hg
    next hc=>
     unfold isO;have h1:=hc.1
     have h2:=hc.2
     unfold placeB at h1;rw [Bool.and_eq_true]at h1
     rw [h1.2,Bool.true_and,decide_eq_true_eq];exact h2
    next=> cases hg
   obtain ⟨P,hP⟩:=qbn hO
   have hk:key∈P.map Js.keyOf:=Classical.byContradiction fun h=> by
    rw [(qce hP key).2 h]at hg
    cases hg
   obtain ⟨q,hq,rfl⟩:=List.mem_map.1 hk
   have hne:look P (Js.keyOf q)≠[]:=fun e=> by
    unfold look at e;cases hi:idxF (Js.keyOf q) P with
    | none=> exact absurd (qdy.1 hi) (fun h=> h (List.mem_map.2 ⟨q,hq,rfl⟩))
    | some j=>
     rw [hi]at e
     obtain ⟨hj,_,_⟩:=qcu hi
     have e:named [] (P.getD j [])=[]:=e
     rw [List.getD_eq_getElem?_getD,List.getElem?_eq_getElem hj,Option.getD_some]at e
     have:=hP.ends.pos (List.getElem_mem hj)
     have h3:=qbs [] P[j]
     rw [e]at h3
     rw [List.length_nil]at h3
     omega
   rw [ObjIs.key hP]at h
   exact absurd h hne
 ·exact qbh
theorem qch {L:List V} {key:List UInt8} {p:Nat} (h:getA L 0 key=some p):∃hp:p < L.length,ofKey L key≠[]∧isO L=true∧rightPF (ofKey L key)=true∧kindOf (ofKey L key)=L[p].kind∧textOf (ofKey L key)=L[p].text:=by
 obtain ⟨hp,h1,h2⟩:=qbb h
 have hne:ofKey L key≠[]:=fun e=> by rw [q2r.1 e]at h;cases h
 have hO:=qcv hne
 obtain ⟨P,hP⟩:=qbn hO
 exact ⟨hp,hne,hO,qfu hP hne,h1,h2⟩
theorem qej {α:Type} {f:List V→Option α}:∀ {P:List (List V)} {ds:List α} {p:List V} {d:α},allO f P=some ds→f p=some d→allO f (P++[p])=some (ds++[d])
 | [],ds,p,d,h,hd=> by
  obtain rfl:=Option.some.inj h
  show (f p).bind _=_
  rw [hd];rfl
 | q::P,ds,p,d,h,hd=> by
  rw [allO]at h
  obtain ⟨x,hx,h⟩:=Option.bind_eq_some_iff.1 h
  obtain ⟨r,hr,h⟩:=Option.bind_eq_some_iff.1 h
  obtain rfl:=Option.some.inj h
  rw [List.cons_append,allO,hx,qej hr hd];rfl
theorem qek {α:Type} {f:List V→Option α}:∀ {P:List (List V)} {p:List V},p∈P→f p=none→allO f P=none
 | q::P,p,hm,hd=> by
  rw [allO];rcases List.mem_cons.1 hm with rfl | hm
  ·rw [hd]
   rfl
  ·rw [qek hm hd]
   cases f q <;> rfl
theorem qsk {α:Type} (f:List V→Option α) {L:List V} {key:List UInt8} {p:Nat} (h:getA L 0 key=some p) {hp:p < L.length}:listO f (ofKey L key)=if L[p].kind=5 then allO f (partsL (ofKey L key)) else none:=by
 obtain ⟨_,h1,_⟩:=qbb h
 unfold listO
 rw [h1]
theorem qot {L:List V} (hr:rightPF L=true) (h5:kindOf L=5):(partsL L).length≤5000:=by
 match L,hr,h5 with
 | v::r,hr,h1=>
  obtain ⟨P,hP⟩:=qwp hr h1
  rw [hP.parts];exact hP.few
theorem qf2 {L:List V} (hr:rightPF L=true) (h5:kindOf L=5):∀p∈partsL L,rightPF p=true:=by
 obtain ⟨v,Q,rfl,he,hn,_,⟨ks,_,hq,_⟩,hl⟩:=qcl hr
 have hk5:v.kind=5:=h5
 rw [show isObj v=false from decide_eq_false (by omega)]at hq
 rw [qg7 hq (by rw [←hq.len];exact hn)]
 intro p hp
 have hbare:=qkh hq p hp
 obtain ⟨v2,l2,t2,rfl,ho,hle⟩:=qig hq p hp
 have e:({v2 with key:=[]}:V)=v2:=by
  have:v2.key=[]:=hbare
  cases v2
  subst this;rfl
 have hb:=qdv ho
 rw [e]at hb
 rw [List.length_cons]at hle hl
 exact qbf hb (by omega)
theorem q10 {L:List V} {key:List UInt8} {k:Nat} (hg:getA L 0 key=some k) (h5:kindOf (L.drop k)=5) {j:Nat} (hj:j < (partsL (ofKey L key)).length):
  ∃p,itemA L (k:Int) (j:Int)=some p∧∃hp:p < L.length,kindOf (partsL (ofKey L key))[j]=L[p].kind∧textOf (partsL (ofKey L key))[j]=L[p].text:=by
 obtain ⟨_,h2⟩:=qic hg h5
 have hc:=h2 j hj
 obtain ⟨hk,hne,hO,hR,h1,_⟩:=qch hg
 have hpos:0 < ((partsL (ofKey L key))[j]).length:=qav (qf2 hR (by
  rw [List.drop_eq_getElem_cons hk]at h5
  exact h1.trans h5) _ (List.getElem_mem hj))
 cases hi:itemA L (k:Int) (j:Int)with
 | none=>
  rw [hi]at hc
  rw [←hc]at hpos
  exact absurd hpos (Nat.lt_irrefl _)
 | some p=>
  rw [hi]at hc
  have hc:cutA L (p:Int)=_:=hc
  refine ⟨p,rfl, ?_⟩
  unfold cutA at hc;split at hc
  next hb=>
   unfold placeB at hb;rw [Bool.and_eq_true]at hb
   have hb1:=of_decide_eq_true hb.1
   have hp:p < L.length:=by omega
   refine ⟨hp, ?_⟩
   obtain ⟨_,_,_,h0⟩:=qhx hb.2 hp
   obtain ⟨n,hn⟩:∃n,rowE L p=n+1:=⟨rowE L p - 1,by omega⟩
   rw [Int.toNat_natCast,hn,List.drop_eq_getElem_cons hp,List.take_succ_cons]at hc
   rw [←hc];exact ⟨rfl,rfl⟩
  next=>
   rw [←hc]at hpos
   exact absurd hpos (Nat.lt_irrefl _)
theorem qz7 {L:List V} {key:List UInt8} {k:Nat} (hg:getA L 0 key=some k) (h5:kindOf (L.drop k)=5) {j:Nat} (hj:j < (partsL (ofKey L key)).length):
  ∃p,itemA L (k:Int) (j:Int)=some p∧∃hp:p < L.length,digO (partsL (ofKey L key))[j]=if L[p].kind=4 then Dg.parse L[p].text else none:=by
 obtain ⟨p,h1,hp,h2,h3⟩:=q10 hg h5 hj
 refine ⟨p,h1,hp, ?_⟩
 unfold digO tellF
 rw [h2,h3]
 split <;> rfl
theorem qqo {L:List V} (h:getA L 0 typeK=none∨getA L 0 diffK=none):idsF L=none:=by
 unfold idsF
 rcases h with h | h
 ·rw [qqr h (by decide),if_neg fun h=> by cases h.2]
 ·split
  ·unfold listO
   rw [qbh h];rfl
  ·rfl
theorem q28 {L:List V} {t k:Nat} (ht:getA L 0 typeK=some t) (hk:getA L 0 diffK=some k) {h1:t < L.length} {h2:k < L.length}:
  idsF L=if countOf L=2∧L[t].kind=4∧L[t].text=layersK∧L[k].kind=5 then allO digO (partsL (ofKey L diffK)) else none:=by
 unfold idsF
 rw [qw6 ht (hp:=h1),qsk _ hk (hp:=h2)]
 by_cases c1:countOf L=2 <;> by_cases c2:L[t].kind=4 <;> by_cases c3:L[t].text=layersK <;> by_cases c4:L[k].kind=5 <;> simp [c1,c2,c3,c4]
theorem qmg {L:List V} (h:kindOf L≠6):entryF L=none:=by
 unfold entryF isO
 rw [show decide (kindOf L=6)=false from decide_eq_false h,Bool.and_false]
 exact if_neg fun h=> by cases h.1
theorem qx7 {L:List V} {p:Nat} (hg:getA L 0 byK=some p) {hp:p < L.length} (h:L[p].kind≠4):entryF L=none:=by
 obtain ⟨_,hne,_,_,h1,_⟩:=qch hg
 unfold entryF
 refine if_neg fun hc=> ?_
 rcases hc.2.1 with e | e
 ·exact hne e
 ·exact h (h1.symm.trans e)
theorem qp6 {L:List V} {p:Nat} (hg:getA L 0 emptyK=some p) {hp:p < L.length} (h1:L[p].kind≠1) (h2:L[p].kind≠2):entryF L=none:=by
 obtain ⟨_,hne,_,_,h3,_⟩:=qch hg
 unfold entryF
 refine if_neg fun hc=> ?_
 rcases hc.2.2 with e | e | e
 ·exact hne e
 ·exact h1 (h3.symm.trans e)
 ·exact h2 (h3.symm.trans e)
theorem ql9 {L:List V} {key:List UInt8} {p:Nat} (hg:getA L 0 key=some p) {hp:p < L.length}:textOf (ofKey L key)=L[p].text:=(qch hg).2.2.2.2.2
theorem qv0 {L:List V} {key:List UInt8} (hg:getA L 0 key=none):textOf (ofKey L key)=[]:=by rw [qbh hg];rfl
theorem qct {L:List V} (hr:rightPF L=true) (h6:kindOf L=6) (hb:∀p (hp:p < L.length),getA L 0 byK=some p→L[p].kind=4) (he:∀p (hp:p < L.length),getA L 0 emptyK=some p→L[p].kind=1∨L[p].kind=2):
  entryF L=some ⟨textOf (ofKey L byK),decide (kindOf (ofKey L emptyK)=1),srt (dropA (dropA L byK) emptyK)⟩:=by
 unfold entryF
 refine if_pos ⟨?_, ?_, ?_⟩
 ·unfold isO
  rw [hr,decide_eq_true h6];rfl
 ·cases hg:getA L 0 byK with
  | none=> exact .inl (qbh hg)
  | some p=>
   obtain ⟨hp,_,_,_,h1,_⟩:=qch hg
   exact .inr (h1.trans (hb p hp hg))
 ·cases hg:getA L 0 emptyK with
  | none=> exact .inl (qbh hg)
  | some p=>
   obtain ⟨hp,_,_,_,h1,_⟩:=qch hg
   rcases he p hp hg with e | e
   ·exact .inr (.inl (h1.trans e))
   ·exact .inr (.inr (h1.trans e))
theorem qpq {L:List V} {p:Nat} (hg:getA L 0 emptyK=some p) {hp:p < L.length}:decide (kindOf (ofKey L emptyK)=1)=decide (L[p].kind=1):=by rw [(qch hg).2.2.2.2.1]
theorem qkt {L:List V} (hg:getA L 0 emptyK=none):decide (kindOf (ofKey L emptyK)=1)=false:=by rw [qbh hg];rfl
theorem qva {L:List V} (h:getA L 0 histK=none):histF L=some []:=if_pos (qbh h)
theorem q1p {L:List V} {k:Nat} (h:getA L 0 histK=some k) {hk:k < L.length}:histF L=if L[k].kind=5 then allO entryF (partsL (ofKey L histK)) else none:=by
 unfold histF
 rw [if_neg (qch h).2.1,qsk _ h (hp:=hk)]
theorem qd1 {L:List V} (h:rightPF L=true):sortA L=srt L:=by
 unfold sortA
 rw [if_pos h]
theorem q0b {L:List V} {a b:List UInt8} (h:rightPF L=false):plainF L a b=false:=by
 unfold plainF isO
 rw [h]
 rfl
end Jo
end Go.Proofs.YtgmangikcfakgaaGreatDoor
