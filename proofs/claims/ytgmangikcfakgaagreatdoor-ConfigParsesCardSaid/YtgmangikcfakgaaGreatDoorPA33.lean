import Derived.Test.YtgmangikcfakgaaGreatDoorPA30
import Derived.Test.YtgmangikcfakgaaGreatDoorPA7
import Derived.Test.YtgmangikcfakgaaGreatDoorPA28
set_option maxRecDepth 100000
set_option maxHeartbeats 40000000
namespace Go.Proofs.YtgmangikcfakgaaGreatDoor
open Go.RowKit Sh Jt Js
def iv (k:Nat):Value:= .int .i64 (k:Int)
structure IntsAt (w:World) (A:Option Addr) (n c:Nat) (P:List Nat):Prop where
 len:P.length=n
 cap:n≤c
 at_:0 < n→∃b o,A=some ⟨b,o,none⟩∧b < w.heap.size∧w.rangeAt b o (P.map iv)
theorem IntsAt.kept {w w':World} {S:Nat→Prop} {A:Option Addr} {n c:Nat} {P:List Nat} (h:IntsAt w A n c P) (k:Kept w w' S) (hS:∀b o,A=some ⟨b,o,none⟩→b < w.heap.size→¬S b):IntsAt w' A n c P:=
 ⟨h.len,h.cap,fun hn=> by
  obtain ⟨b,o,e,hlt,hr⟩:=h.at_ hn
  exact ⟨b,o,e,Nat.lt_of_lt_of_le hlt k.size,qbd hr k (hS b o e hlt)⟩⟩
theorem IntsAt.below {w w':World} {A:Option Addr} {n c:Nat} {P:List Nat} (h:IntsAt w A n c P) (hb:Below w.heap.size w w'):IntsAt w' A n c P:=h.kept (qad hb) (fun _ _ _ _ h=> h)
theorem IntsAt.cell {w:World} {b o n c:Nat} {P:List Nat} (h:IntsAt w (some ⟨b,o,none⟩) n c P) {i:Nat} (hi:i < P.length):w.cell? ⟨b,o+i,none⟩=some (.int .i64 (P[i]:Int)):=by
 obtain ⟨b',o',e,_,hr⟩:=h.at_ (by have:=h.len;omega)
 cases e
 exact hr i _ (by rw [List.getElem?_map,List.getElem?_eq_getElem hi];rfl)
theorem IntsAt.pre {w:World} {A:Option Addr} {n c:Nat} {P:List Nat} (h:IntsAt w A n c P) {m:Nat} (hm:m≤n):IntsAt w A m c (P.take m):=by
 have hl:=h.len
 have hc:=h.cap
 refine ⟨by rw [List.length_take];omega,by omega,fun h0=> ?_⟩
 obtain ⟨b,o,e,hlt,hr⟩:=h.at_ (by omega)
 refine ⟨b,o,e,hlt,fun j v hj=> hr j v ?_⟩
 rw [List.map_take,List.getElem?_take]at hj
 split at hj
 ·exact hj
 ·cases hj
theorem IntsAt.behind {w:World} {b o n c:Nat} {P:List Nat} (h:IntsAt w (some ⟨b,o,none⟩) n c P) {m:Nat} (hm:m≤n) {AD:Addr} (hA:(if c=m then some (⟨b,o,none⟩:Addr) else some ⟨b,o+m,none⟩)=some AD):IntsAt w (some AD) (n - m) (c - m) (P.drop m):=by
 have hl:=h.len
 have hc:=h.cap
 refine ⟨by rw [List.length_drop];omega,by omega,fun h0=> ?_⟩
 obtain ⟨b',o',e,hlt,hr⟩:=h.at_ (by omega)
 cases e
 rw [if_neg (by omega)]at hA
 cases hA
 refine ⟨b,o+m,rfl,hlt,fun j v hj=> ?_⟩
 rw [List.map_drop,List.getElem?_drop]at hj
 have:=hr _ _ hj
 rwa [←Nat.add_assoc]at this
theorem IntsAt.one (w:World) (k:Nat):IntsAt (w.alloc (.cells #[iv k] 3)) (some ⟨w.heap.size,0,none⟩) 1 1 [k]:=by
 have r:=Row.new w 3 [iv k]
 exact ⟨rfl,Nat.le_refl _,fun _=> ⟨_,0,rfl,r.lt,r.range 0 _ (fun j v hj=> by rw [Nat.zero_add];exact hj)⟩⟩
def OwnInts (w:World) (B:Nat) (v:Value) (P:List Nat):Prop:=w.ownsRow B 3 1 v P.length (P.map iv)
theorem OwnInts.nil (w:World) (B:Nat):OwnInts w B (.slice none 0 0) []:=⟨rfl, .inl ⟨rfl,rfl⟩⟩
theorem OwnInts.made (w:World):OwnInts (w.alloc (.cells #[] 3)) w.heap.size (.slice (some ⟨w.heap.size,0,none⟩) 0 0) []:=
 ⟨rfl, .inr ⟨w.heap.size,0,#[],rfl,Nat.le_refl _,heap_alloc_new w _,Nat.le_refl _,Nat.zero_le _,rfl,rfl⟩⟩
theorem OwnInts.kept {w w':World} {S:Nat→Prop} {B:Nat} {v:Value} {P:List Nat} (h:OwnInts w B v P) (k:Kept w w' S) (hS:∀b,v.ownBlock=some b→¬S b):OwnInts w' B v P:=by
 obtain ⟨hl,h1 | ⟨g,cap,cur,rfl,hg,hh,hn,hc,hs,ht⟩⟩:=h
 ·exact ⟨hl, .inl h1⟩
 ·exact ⟨hl, .inr ⟨g,cap,cur,rfl,hg,(k.block g (Array.getElem?_eq_some_iff.1 hh).1 (hS g rfl)).trans hh,hn,hc,hs,ht⟩⟩
theorem OwnInts.below {w w':World} {B:Nat} {v:Value} {P:List Nat} (h:OwnInts w B v P) (hb:Below w.heap.size w w'):OwnInts w' B v P:=h.kept (qad hb) (fun _ _ h=> h)
theorem OwnInts.mono {w:World} {B B':Nat} {v:Value} {P:List Nat} (h:OwnInts w B v P) (hB:B'≤B):OwnInts w B' v P:=by
 obtain ⟨hl,h1 | ⟨g,cap,cur,rfl,hg,rest⟩⟩:=h
 ·exact ⟨hl, .inl h1⟩
 ·exact ⟨hl, .inr ⟨g,cap,cur,rfl,Nat.le_trans hB hg,rest⟩⟩
theorem OwnInts.ints {w:World} {B:Nat} {v:Value} {P:List Nat} (h:OwnInts w B v P):(P=[]∧∃A c,v= .slice A 0 c)∨∃g c,v= .slice (some ⟨g,0,none⟩) P.length c∧IntsAt w (some ⟨g,0,none⟩) P.length c P∧g < w.heap.size∧B≤g:=by
 obtain ⟨hl,⟨rfl,h0⟩ | ⟨g,cap,cur,rfl,hg,hh,hn,hc,hs,ht⟩⟩:=h
 ·exact .inl ⟨List.eq_nil_of_length_eq_zero h0,none,0,rfl⟩
 ·have hlt:=(Array.getElem?_eq_some_iff.1 hh).1
  refine .inr ⟨g,cap,rfl,⟨rfl,hn,fun _=> ⟨g,0,rfl,hlt,fun j u hj=> ?_⟩⟩,hlt,hg⟩
  have hjl:=(List.getElem?_eq_some_iff.1 hj).1
  rw [List.length_map]at hjl
  rw [cell_of_row _ _ _ _ _ _ hh,Nat.zero_add,←hj,←ht,List.getElem?_take,if_pos (by omega)];simp
theorem OwnInts.none0 {w:World} {B:Nat} {v:Value} (h:OwnInts w B v []):∃A c,v= .slice A 0 c:=by
 rcases h.ints with ⟨_,h⟩ | ⟨g,c,e,_⟩
 ·exact h
 ·exact ⟨_,_,e⟩
theorem OwnInts.some1 {w:World} {B n:Nat} {v:Value} {P:List Nat} (h:OwnInts w B v P) (hn:P.length=n) (h0:0 < n):∃g c,v= .slice (some ⟨g,0,none⟩) n c∧IntsAt w (some ⟨g,0,none⟩) n c P∧g < w.heap.size∧B≤g∧n≤c:=by
 subst hn
 rcases h.ints with ⟨e,_⟩ | ⟨g,c,e,h1,h2,h3⟩
 ·rw [e]at h0
  exact absurd h0 (Nat.lt_irrefl _)
 ·exact ⟨g,c,e,h1,h2,h3,h1.cap⟩
theorem qut {w:World} {B B2:Nat} {v u:Value} {L:List V} {P:List Nat} (h:OwnVals w B v L) (h2:OwnInts w B2 u P):∀k,v.ownBlock=some k→¬u.ownBlock=some k:=by
 intro k hk hk2
 obtain ⟨hl,⟨rfl,_⟩ | ⟨g,cap,cur,rfl,hg,hh,_⟩⟩:=h
 ·cases hk
 ·obtain ⟨hl2,⟨rfl,_⟩ | ⟨g2,cap2,cur2,rfl,hg2,hh2,_⟩⟩:=h2
  ·cases hk2
  ·obtain rfl:g=k:=Option.some.inj hk
   obtain rfl:g2=g:=Option.some.inj hk2
   rw [hh]at hh2
   simp only [Option.some.injEq,Obj.cells.injEq]at hh2
   exact absurd hh2.2 (by simp)
theorem qo8:∃i,Tryz.prog.info? 3=some i∧i.zero=some (.int .i64 0)∧i.size=1∧i.bytes=8:=by
 have h:(Tryz.prog.info? 3).map (fun i=> (i.zero,i.size,i.bytes))=some (some (.int .i64 0),1,8):=by kernel_rfl
 obtain ⟨i,hi,hz⟩:=Option.map_eq_some_iff.1 h
 simp only [Prod.mk.injEq]at hz
 exact ⟨i,hi,hz.1,hz.2.1,hz.2.2⟩
theorem qfq {w:World} (ty:TypeId) (B:Nat) (v:Value) (P:List Nat) (hown:OwnInts w B v P) (ad:Addr) (n c:Nat) (M:List Nat) (hsrc:IntsAt w (some ad) n c M) (hb:P.length+n≤1000000000000) (hB:B≤w.heap.size):
  ∃v' w',(Builtin.append_ #[130,130] ty #[v, .slice (some ad) n c]).run Tryz.prog w= .ok v' w'∧OwnInts w' B v' (P++M)∧Kept w w' (fun k=> B≤k∧v.ownBlock=some k):=by
 obtain ⟨i,hi,hz,hsz,hby⟩:=qo8
 have hlen:=hsrc.len
 have hnews:∀j u,(M.map iv)[j]? =some u→w.cell? (ad.add j)=some u:=by
  intro j u hj;have hjl:=(List.getElem?_eq_some_iff.1 hj).1
  rw [List.length_map]at hjl
  obtain ⟨b,off,e,_,hr⟩:=hsrc.at_ (by omega)
  simp only [Option.some.injEq]at e
  subst e;rw [Addr.add_mid];exact hr j u hj
 obtain ⟨v',w',hr,h2,h3,h4,h5⟩:=run_append_own_at (P:=Tryz.prog) w B 130 ty 3 i (.int .i64 0) 1 8 Tryz.underlying130 hi hz hsz hby rfl (by decide) v P.length (P.map iv) hown ad n c (M.map iv)
  (by rw [List.length_map,hlen,Nat.mul_one]) hnews (fun v hv=> by obtain ⟨k,_,rfl⟩:=List.mem_map.1 hv;rfl) (by unfold maxLen;omega) (by omega) hB
 refine ⟨v',w',hr, ?_, ?_⟩
 ·show w'.ownsRow B _ 1 v' (P++M).length ((P++M).map iv)
  rw [List.length_append,hlen,List.map_append];exact h2
 ·refine ⟨h3.os,h3.tape,h3.output,h3.size,fun k hk hn=> h3.block k hk (fun e=> hn ?_)⟩
  obtain ⟨_,⟨rfl,_⟩ | ⟨g,cap,cur,rfl,hg,_⟩⟩:=hown
  ·cases e
  ·have e':g=k:=by simpa [Value.ownBlock] using e.symm
   subst e'
   exact ⟨hg,rfl⟩
theorem qrx {w:World} {ops:Array Oper} {rest:List Oper} {o:Oper} {a:Act} {Q:Exit→Act→World→Prop} (hg:o.guard=none) (s x:Operand)
  (ho:o.op= .call {callee:= .builtin .append,args:=#[s,x],argTypes:=#[130,130]}) (B:Nat) (v:Value) (P:List Nat) (hs:a.eval s=v) (hown:OwnInts w B v P)
  (ad:Addr) (n c:Nat) (M:List Nat) (hx:a.eval x= .slice (some ad) n c) (hsrc:IntsAt w (some ad) n c M) (hb:P.length+n≤1000000000000) (hB:B≤w.heap.size)
  (h:∀v' w',Hid (OwnInts w' B v' (P++M))→Hid (Kept w w' (fun k=> B≤k∧v.ownBlock=some k))→wpList Tryz.prog ops Q rest (a.put o.dst v') w'):wpList Tryz.prog ops Q (o::rest) a w:=by
 obtain ⟨v',w',hr,h2,h3⟩:=qfq o.type B v P hown ad n c M hsrc hb hB
 refine qa5 (by simp [Region.wanted,hg]) fun K hK=> ?_
 unfold Oper.wp execOp
 simp only [ho,resolve,invoke,builtin,Sem.run_bind,Sem.run_pure,Result.andThen_ok,List.map_toArray,List.map_cons,List.map_nil,hs,hx,hr]
 exact hK _ _ (h v' w' (Qh h2) (Qh h3))
theorem qup {ops:Array Oper} {rest:List Oper} {o:Oper} {a:Act} {w:World} {Q:Exit→Act→World→Prop} (hg:o.guard=none) (x:Operand) (ho:o.op= .buildSlice 130 1 #[(0,x)]) (k:Nat) (hx:a.eval x= .int .i64 (k:Int))
  (h:wpList Tryz.prog ops Q rest (a.put o.dst (.slice (some ⟨w.heap.size,0,none⟩) 1 1)) (w.alloc (.cells #[iv k] 3))):wpList Tryz.prog ops Q (o::rest) a w:=by
 obtain ⟨i,hi,hz,hsz,_⟩:=qo8
 refine wpList_buildSlice hg 130 3 1 #[(0,x)] ho #[iv k] i _ Tryz.underlying130 hi hz (by rw [hsz];decide) (by rw [hsz];decide) ?_ h
 rw [hsz]
 have e:(Array.map (fun (p:Nat×Operand)=> (p.1,a.eval p.2)) #[(0,x)]).toList=[(0,iv k)]:=by simp [hx,iv]
 show Instr.fill _ _ (Array.map (fun (p:Nat×Operand)=> (p.1,a.eval p.2)) #[(0,x)]).toList=_
 rw [e,show Array.range (1*1)=#[0]from by decide]
 simp [Instr.fill,Value.cells,iv]
theorem qi4 {B:Nat} {w w2:World} (h:Below B w w2):Below B w w2.drew:=qaa h 1
theorem qsd {L x:List V} {k:Nat} {v:V} (h:L.drop k=v::x):∃hk:k < L.length,L[k]=v:=by
 have hk:k < L.length:=by
  have:=congrArg List.length h
  rw [List.length_drop,List.length_cons]at this
  omega
 refine ⟨hk, ?_⟩
 rw [List.drop_eq_getElem_cons hk]at h
 exact (List.cons.inj h).1
theorem qv9 (w:World) (A:Option Addr) (c:Nat) (L:List V) (hL:ValsAt w A L.length c L) (hn:L.length≤250000) (a d:Nat) (ob:Bool) (v:V) (r x:List V) (t:List UInt8) (h1:One d ob v r t) (hd:L.drop a=v::(r++x)):
  Calls Tryz.prog 107 #[.slice A L.length c, .int .i64 (a:Int)] w fun e w'=> ∃v',e= .returned v'∧Hid (OwnInts w' w.heap.size v' ((placesF (a+1) (ownParts v r)).map (·.1))∧Below w.heap.size w w'):=by
 obtain ⟨ha,hv⟩:=qsd hd
 obtain ⟨b,o,rfl,hb,_⟩:=hL.at_ (by omega)
 have HE:=Qh (fun W (q:Below w.heap.size w W) (k e:Nat) (hk:k < L.length) (h:endW (L.drop k) 1=some e)=> qlq W (some ⟨b,o,none⟩) c L (hL.below q) hn k e hk h)
 have HC:=Qh (fun W (q:Below w.heap.size w W)=> (hL.below q).cells ha)
 rw [hv]at HC
 obtain ⟨hc1,hc2⟩:=KidS.count h1
 have hm9:(ownParts v r).length≤250000:=by
  have:=congrArg List.length hd
  rw [List.length_drop,List.length_cons,List.length_append]at this
  omega
 have HS:=Qh (KidS.start h1 hd)
 rw [←hc1]at HC
 clear hL hv h1 hd hc1 hc2
 generalize placesF (a+1) (ownParts v r)=All at*
 generalize ownParts v r=P at*
 obtain ⟨m,hm⟩:∃m,m=P.length:=⟨_,rfl⟩
 rw [←hm]at HC hm9
 have HM:=Qh hm
 clear hm
 generalize isObj v=oo at*
 have ha9:(a:Int) < (L.length:Int):=by omega
 go_enter Tryz.func107,Tryz.ntmps107
 go_wp2_with fail
 go_loopg [5,6,7] m (fun g v5 v6 v7 wx=> ∃(D:List (Nat×List V)) (k i:Nat) (R:List (List V)),v6= .int .i64 (k:Int)∧v7= .int .i64 (i:Int)∧i+g=m∧Hid (R.length=g∧D.length=i)∧Hid (KidS L x (d+1) oo All D k R)∧Hid (OwnInts wx w.heap.size v5 (D.map (·.1))∧Below w.heap.size w wx))
 case atStart=> exact ⟨[],a+1,0,P,by go_num,rfl,by omega,Qh ⟨HM.out.symm,rfl⟩,HS,Qh ⟨OwnInts.nil _ _,Below.refl _ _⟩⟩
 case round=>
  clear HS HM;obtain ⟨D,k,i,R,rfl,rfl,hig,HN,HK,HO⟩:=hrel
  obtain ⟨x0,x1,x2,x3⟩:=HC.out wr HO.out.2
  cases gk with
  | zero=>
   obtain rfl:i=m:=by omega
   have hge:¬(i:Int) < (i:Int):=by omega
   have HR:Hid (All=D):=Qh (by
    have h2:=HK.out.eq
    rw [List.eq_nil_of_length_eq_zero HN.out.1]at h2
    exact h2.trans (List.append_nil D))
   clear HK HN HC HE;go_wp2_with fail;go_ret;exact ⟨_,rfl,Qh ⟨by rw [HR.out];exact HO.out.1,HO.out.2⟩⟩
  | succ g=>
   have hlt:(i:Int) < (m:Int):=by omega
   match R,HN with
   | [],HN=> exact absurd HN.out.1 (Nat.succ_ne_zero g).symm
   | p::R,HN=>
    obtain ⟨q1,q2,q3⟩:=HK.out.next
    have HK2:=Qh q3
    have HE2:=Qh (fun W q=> HE.out W q k p.length q1 q2)
    have HBL:=Qh (show OwnInts (wr.alloc (.cells #[iv k] 3)) w.heap.size u5 (D.map (·.1))from HO.out.1.below (qac wr _))
    have hDl:(D.map (·.1)).length≤250000:=by rw [List.length_map,HN.out.2];omega
    have HDL:=Qh hDl
    have HSZ:=Qh (show w.heap.size≤(wr.alloc (.cells #[iv k] 3)).heap.size from Nat.le_trans HO.out.2.size (qac wr _).size)
    have HBA:=Qh (HO.out.2.trans ((qac wr (.cells #[iv k] 3)).mono HO.out.2.size))
    clear q1 q2 q3 HE hDl;go_wp2_with (first
     | (with_reducible refine qup rfl _ rfl k rfl ?_)
     | (at_builtin;go_must (with_reducible refine qrx rfl _ _ rfl w.heap.size u5 (D.map (·.1)) rfl HBL.out ⟨wr.heap.size,0,none⟩ 1 1 [k] rfl (IntsAt.one wr k) (by have:=HDL.out;omega) HSZ.out ?_;intro v4 w4 h1 h2;have HB4:=Qh (HBA.out.trans (h2.out.below HSZ.out (fun i hi e=> by have:=e.1;omega)));have HO4:=h1;clear h1 h2)))
    have HEX:=Qh (HE2.out w4 HB4.out)
    clear HE2 HBL HBA HSZ;go_wp2_with fail;refine HEX.out.mono ?_
    rintro e w5 ⟨rfl,K5⟩;have HB5:=Qh (HB4.out.trans (K5.out.mono HB4.out.size))
    have HO5:=Qh (show OwnInts w5 w.heap.size v4 ((D++[(k,p)]).map (·.1))from by rw [List.map_append];exact HO4.out.below K5.out)
    clear HO4 K5 HEX HB4 HO;go_wp2_with fail;go_roundg g
    case measure=> omega
    case rel=> exact ⟨D++[(k,p)],k+p.length,i+1,R,rfl,by go_num,by omega,Qh ⟨by have:=HN.out.1;rw [List.length_cons]at this;omega,by rw [List.length_append,HN.out.2];rfl⟩,HK2,Qh ⟨HO5.out,HB5.out⟩⟩
theorem qe6 {w:World} {ops:Array Oper} {o:Oper} {a:Act} {K:Act→World→Prop} {Q:Exit→Act→World→Prop} {E:Prop} (hg:o.guard=none) (s x:Operand)
  (ho:o.op= .call {callee:= .builtin .append,args:=#[s,x],argTypes:=#[130,130]}) (B:Nat) (v:Value) (P:List Nat) (hs:a.eval s=v) (hown:OwnInts w B v P)
  (ad:Addr) (n c:Nat) (M:List Nat) (hx:a.eval x= .slice (some ad) n c) (hsrc:IntsAt w (some ad) n c M) (hb:P.length+n≤1000000000000) (hB:B≤w.heap.size)
  (h:∀v' w',Hid (OwnInts w' B v' (P++M))→Hid (Kept w w' (fun k=> B≤k∧v.ownBlock=some k))→K (a.put o.dst v') w'):
  if Region.wanted o (yielded ops a.tmps)=true then Oper.wp Tryz.prog o a w K Q else E:=by
 rw [if_pos (by simp [Region.wanted,hg])]
 obtain ⟨v',w',hr,h2,h3⟩:=qfq o.type B v P hown ad n c M hsrc hb hB
 unfold Oper.wp execOp
 simp only [ho,resolve,invoke,builtin,Sem.run_bind,Sem.run_pure,Result.andThen_ok,List.map_toArray,List.map_cons,List.map_nil,hs,hx,hr]
 exact h v' w' (Qh h2) (Qh h3)
theorem qoz:∀a b:List UInt8,Op.bytesLess a b=ltF a b
 | [],[]=> rfl
 | _::_,[]=> rfl
 | [],_::_=> rfl
 | a::x,b::y=> by
  have ih:=qoz x y
  have h1:Op.bytesLess (a::x) (b::y)=(decide (a < b) || (a==b && Op.bytesLess x y)):=rfl
  rw [h1,ltF,ih];by_cases e:a=b
  ·subst e
   rw [if_pos rfl,decide_eq_false (UInt8.lt_irrefl a)];simp
  ·rw [if_neg e,beq_eq_false_iff_ne.2 e,Bool.false_and,Bool.or_false]
   exact decide_eq_decide.2 UInt8.lt_iff_toNat_lt
def RSortP (m:Nat):Prop:=∀(f d a c:Nat) (ob:Bool) (v:V) (r x:List V) (t:List UInt8) (w:World) (A:Option Addr) (L:List V),d+m=50→One d ob v r t→L.drop a=v::(r++x)→r.length+1≤f→r.length+1≤5000→ValsAt w A L.length c L→L.length≤250000→
 Calls Tryz.prog 72 #[.slice A L.length c, .int .i64 (a:Int)] w fun e w'=> ∃v',e= .returned v'∧Hid (OwnVals w' w.heap.size v' (sortF f (v::r))∧Below w.heap.size w w')
theorem qux {m:Nat} (ih:RSortP m) {f d c:Nat} {o:Bool} {L:List V} {S:List (Nat×List V)} (hd:d+m=50) (hs:LeftS L d o S) (hn:L.length≤250000) (hl:(S.map (·.2)).flatten.length≤5000) (hf:(S.map (·.2)).flatten.length≤f) {k:Nat} (hk:k < S.length) (W:World) (A:Option Addr) (hL:ValsAt W A L.length c L):
  Calls Tryz.prog 72 #[.slice A L.length c, .int .i64 (S[k].1:Int)] W fun e w'=> ∃v',e= .returned v'∧Hid (OwnVals w' W.heap.size v' (sortF f S[k].2)∧Below W.heap.size W w'):=by
 obtain ⟨y,hy⟩:=hs.ins _ (List.getElem_mem hk)
 obtain ⟨v2,l2,t2,e,ho⟩:=hs.ones _ (List.getElem_mem hk)
 have hc:=(ql0 S hk).1
 rw [e,List.length_cons]at hc
 rw [e,List.cons_append]at hy
 rw [e]
 exact ih f d S[k].1 c o v2 l2 y t2 W A L hd ho hy (by omega) (by omega) hL hn
theorem qth:∀m,RSortP m:=by
 intro m
 induction m with
 | zero=>
  intro f d a c ob v r x t w A L hd h1;have:=h1.deep
  omega
 | succ m ih=>
  intro f d a c ob v r x t w A L hd h1 hdr hf hl5 hL hn;obtain ⟨f,rfl⟩:∃g,f=g+1:=⟨f - 1,by omega⟩
  obtain ⟨s1,s2,s3,s4⟩:=qee (f:=f) h1 (by omega)
  rw [s1];obtain ⟨ha,hv⟩:=qsd hdr
  obtain ⟨b,o,rfl,hb,_⟩:=hL.at_ (by omega)
  have HL:=Qh (fun W (q:Below w.heap.size w W)=> hL.below q)
  have HC:=Qh (fun W (q:Below w.heap.size w W)=> (hL.below q).cells ha)
  rw [hv]at HC
  have HK:=Qh (fun W (q:Below w.heap.size w W)=> qv9 W (some ⟨b,o,none⟩) c L (hL.below q) hn a d ob v r x t h1 hdr)
  have HSO:=Qh (SoS.start (f:=f) h1 hdr)
  have HCELL:=Qh (fun W (q:Below w.heap.size w W) (k:Nat) (hk:k < L.length)=> ((hL.below q).cells hk).2.1)
  have hl2:(ordP v r).flatten.length=r.length:=s3
  have HS2:=Qh s2
  have hml:(placesF (a+1) (ownParts v r)).length≤5000:=by
   have:=(KidS.count h1).2
   have h3:=congrArg List.length (qdp (ownParts v r) (a+1))
   rw [List.length_map]at h3
   omega
  have HPT:=Qh (fun (S:List (Nat×List V)) (hs:LeftS L (d+1) (isObj v) S) (hq:(S.map (·.2)).flatten.length≤r.length) (k:Nat) (hk:k < S.length) (W:World) (q:Below w.heap.size w W)=> qux ih (by omega) hs hn (by omega) (show _≤f by omega) hk W (some ⟨b,o,none⟩) (hL.below q))
  have HRL:=Qh (show r.length+1≤5000 from hl5)
  clear ih hL hv h1 hdr hf hl5 s1 s2 s3 s4 hl2;generalize hAll:ordP v r=All at*;clear hAll;obtain ⟨oo,hoo⟩:∃oo,oo=isObj v:=⟨_,rfl⟩
  rw [←hoo]at HSO HPT
  have HOO:=Qh hoo
  clear hoo;generalize r.length=rl at*;have ha9:(a:Int) < (L.length:Int):=by omega
  have HLN:Hid (∀k,k < L.length→(k:Int) < (L.length:Int)):=Qh (fun k hk=> by omega)
  have c0:=(HC.out w (Below.refl _ _))
  obtain ⟨c0,c1,c2,c3⟩:=c0
  generalize hn0:placesF (a+1) (ownParts v r)=S0 at*;clear hn0;obtain ⟨kd,key,tx,z⟩:=v
  dsimp only at c0 c1 c2 c3 HC
  go_enter Tryz.func72,Tryz.ntmps72
  go_wp2_with (with_reducible refine qeb rfl _ rfl kd (sb key) (sb tx) z rfl ?_)
  have HB2:=Qh (below_alloc' w (.cells #[.int .i64 kd, .string (sb key), .string (sb tx), .int .i64 z] 72))
  have HO2:=Qh (qff w ⟨kd,key,tx,z⟩)
  refine (HK.out _ HB2.out).mono ?_
  rintro e w3 ⟨v3,rfl,H3⟩;have HB3:=Qh (HB2.out.trans (H3.out.2.mono HB2.out.size))
  have HO3:=Qh (And.intro (HO2.out.below H3.out.2) (H3.out.1.mono HB2.out.size))
  clear HK HB2 HO2 H3 c0 c1 c2 c3;go_wp2_with fail;obtain ⟨g0,hg0⟩:∃g0,g0=S0.length:=⟨_,rfl⟩
  rw [←hg0]at hml
  have HG0:=Qh hg0.symm
  clear hg0;go_loopg [5,6] g0 (fun g v5 v6 wx=> ∃(S:List (Nat×List V)) (out:List V),Hid (S.length=g)∧g≤5000∧Hid (SoS L f (d+1) oo ⟨kd,key,tx,z⟩ (rl+1) All out S)∧Hid (OwnVals wx w.heap.size v5 out∧OwnInts wx w.heap.size v6 (S.map (·.1)))∧Hid (Below w.heap.size w wx))
  case atStart=> exact ⟨S0,[⟨kd,key,tx,z⟩],HG0,hml,HSO,HO3,HB3⟩
  case round=>
   clear HSO HO3 HB3 HG0;obtain ⟨S,out,HG,hg5,HX,HO,HB⟩:=hrel
   cases gk with
   | zero=>
    have hnil:S=[]:=List.eq_nil_of_length_eq_zero HG.out
    subst hnil;obtain ⟨A6,k6,rfl⟩:=HO.out.2.none0
    have HF:=Qh HX.out.done
    clear HX HPT HCELL HC HLN HS2;go_wp2_with fail;go_ret;exact ⟨_,rfl,Qh ⟨by rw [←HF.out];exact HO.out.1,HB.out⟩⟩
   | succ g=>
    obtain ⟨n6,hn6⟩:∃n6,n6=g+1:=⟨_,rfl⟩
    obtain ⟨g6,k6,rfl,hI,hgl,hgB,hk6⟩:=HO.out.2.some1 (n:=n6) (by rw [List.length_map,HG.out,hn6]) (by omega)
    have HI:=Qh hI
    have HAP:=Qh (fun h:u5.ownBlock=some g6=> qut HO.out.1 HO.out.2 _ h rfl)
    have HO1:=Qh HO.out.1
    have hSl:S.length=n6:=by rw [HG.out,hn6]
    have HSL:=Qh hSl
    have HLF:=Qh (Least.first (o:=oo) (S:=S) (by omega))
    have HGL:=Qh hgl
    have h0n:(0:Int) < (n6:Int):=by omega
    have hgt:(n6:Int) > 0:=h0n
    have HKP:=Qh (fun W (q:Below wr.heap.size wr W)=> And.intro (HB.out.trans (q.mono HB.out.size)) (And.intro (HI.out.below q) (HO1.out.below q)))
    have HN6:=Qh hn6
    have hn5:n6≤5000:=by omega
    clear HO HB hI hSl HG hgB hgl hn6;obtain ⟨wo,hwo⟩:∃wo,wo=wr:=⟨_,rfl⟩
    subst hwo;go_wp2_with fail;go_loopg [7,8] g (fun h v7 v8 wy=> ∃mm i:Nat,v7= .int .i64 (mm:Int)∧v8= .int .i64 (i:Int)∧i+h=n6∧mm < n6∧Hid (Least oo S mm i)∧Hid (Below wo.heap.size wo wy))
    case atStart=> exact ⟨0,1,rfl,rfl,by have:=HN6.out;omega,by omega,HLF,Qh (Below.refl _ _)⟩
    case round=>
     clear HLF;obtain ⟨mm,i,rfl,rfl,hih,hmm,HLs,HY⟩:=hrel
     have hmS:mm < S.length:=by rw [HSL.out];exact hmm
     have HKY:=Qh (HKP.out _ HY.out)
     have ym:wr.cell? ⟨g6,mm,none⟩=some (.int .i64 (S[mm].1:Int)):=by
      have h:=HKY.out.2.1.cell (i:=mm) (by rw [List.length_map];exact hmS)
      rw [List.getElem_map,Nat.zero_add]at h
      exact h
     have hm0:(0:Int)≤(mm:Int):=by omega
     have hm1:(mm:Int) < (n6:Int):=by omega
     cases gk with
     | zero=>
      have hin:i=n6:=by omega
      subst hin;have hge:¬(i:Int) < (i:Int):=by omega
      have hLe:Least oo S mm S.length:=by rw [HSL.out];exact HLs.out
      obtain ⟨HX2,hql⟩:=HX.out.next hLe hmS HS2.out
      have HNX:=Qh HX2
      have hxl:=HX.out.len
      have hcl:=ql0 S hmS
      have HPC:=Qh (HPT.out S HX.out.rs (by
       obtain ⟨D,e1,e2⟩:=HX.out.eq
       have:out.length=1+((D.map (sortF f)).flatten).length:=by rw [e1,List.length_cons];omega
       omega) mm hmS wr HKY.out.1)
      have hq0:0 < (sortF f S[mm].2).length:=by
       obtain ⟨v2,l2,t2,e,_⟩:=HX.out.rs.ones _ (List.getElem_mem hmS)
       rw [hql,e];exact Nat.succ_pos _
      have hol:out.length+(sortF f S[mm].2).length≤5000:=by
       have:=HRL.out
       rw [hql];omega
      have HQ0:=Qh (And.intro hq0 hol)
      have hrl:(S.take mm++S.drop (mm+1)).length=g:=by have:=HSL.out;have:=HN6.out;omega
      have HRG:=Qh hrl
      have HMP:=Qh (show (S.map (·.1)).take mm++(S.map (·.1)).drop (mm+1)=(S.take mm++S.drop (mm+1)).map (·.1)from by rw [List.map_append,List.map_take,List.map_drop])
      have hPl:(S.map (·.1)).length=i:=by rw [List.length_map,HSL.out]
      have HPL:=Qh hPl
      clear HX HX2 hql hxl hcl hq0 hol hrl hLe hPl HPT HS2 HLs HCELL HC HLN;generalize S[mm].1=pm at*;generalize sortF f S[mm].2=SQ at*;generalize S.map (·.1)=PS at*;generalize S.take mm++S.drop (mm+1)=S2 at*;go_wp2_with fail;refine HPC.out.mono ?_
      rintro e w5 ⟨v5,rfl,H5⟩;have HB5:=Qh (HKY.out.1.trans (H5.out.2.mono HKY.out.1.size))
      have HO5:=Qh (HKY.out.2.2.below H5.out.2)
      have HI5:=Qh (HKY.out.2.1.below H5.out.2)
      have hg5:g6 < w5.heap.size:=Nat.lt_of_lt_of_le HGL.out (Nat.le_trans HY.out.size H5.out.2.size)
      obtain ⟨gq,kq,rfl, -⟩:=H5.out.1.got HQ0.out.1
      have HV5:=Qh H5.out.1.at_.1
      clear HPC H5 HKY ym HKP HI;go_upto_region 11 with (at_builtin;go_must (with_reducible refine qa6 rfl _ _ rfl w.heap.size u5 out rfl HO5.out ⟨gq,0,none⟩ SQ.length kq SQ rfl HV5.out (by have:=HQ0.out.2;omega) HB5.out.size ?_;intro v6 w6 h1 h2 h3;have HO6:=h1;have HB6:=Qh (HB5.out.trans (h2.out.below HB5.out.size (fun k hk e=> by have:=e.1;omega)));have HI6:=Qh (HI5.out.kept h2.out (fun b2 o2 e hb2 hh=> by cases e;exact HAP.out hh.2));have hg6:g6 < w6.heap.size:=Nat.lt_of_lt_of_le hg5 h2.out.size;clear h1 h2 h3))
      have hmc:(mm:Int)≤(k6:Int):=by omega
      have hmc2:mm≤k6:=by omega
      obtain ⟨e1,he1⟩:∃e1,e1=mm+1:=⟨_,rfl⟩
      have hwm:IntKind.i64.wrap ((mm:Int)+1)=(e1:Int):=by rw [IntKind.wrap_i64];omega
      have hm2:(e1:Int)≤(i:Int):=by omega
      have hm3:(0:Int)≤(e1:Int):=by omega
      have hm4:e1≤i:=by omega
      have HE1:=Qh he1
      clear he1;obtain ⟨AD,hAD⟩:∃AD:Addr,(if k6=e1 then some (⟨g6,0,none⟩:Addr) else some ⟨g6,e1,none⟩)=some AD:=by split <;> exact ⟨_,rfl⟩
      have HBH:=Qh (fun W (h:IntsAt W (some ⟨g6,0,none⟩) i k6 PS)=> h.behind (m:=e1) (AD:=AD) hm4 (by rw [Nat.zero_add];exact hAD))
      have HBD:=Qh (show Below w6.heap.size w6 (w6.alloc (.cells #[] 3)).drew from qi4 (below_alloc' w6 _))
      have HOM:=Qh (show OwnInts (w6.alloc (.cells #[] 3)).drew w6.heap.size (.slice (some ⟨w6.heap.size,0,none⟩) 0 0) []from (OwnInts.made w6).below (qi4 (Below.refl _ _)))
      have HID:=Qh (HI6.out.below HBD.out)
      have HPI:=Qh (HID.out.pre (m:=mm) (by omega))
      have HPML:Hid ((PS.take mm).length≤5000):=Qh (Nat.le_trans (List.length_take_le _ _) (by omega))
      have HS6:=Qh HBD.out.size
      have HU1:=Qh (show ([]:List Nat).length+mm≤1000000000000 from by rw [List.length_nil];omega)
      have HU2:=Qh (show (([]:List Nat)++PS.take mm).length+(i - e1)≤1000000000000 from by rw [List.nil_append];have:=HPML.out;omega)
      clear HI6;go_region_law (first
       | (with_reducible refine qe6 rfl _ _ rfl w6.heap.size (.slice (some ⟨w6.heap.size,0,none⟩) 0 0) [] rfl HOM.out ⟨g6,0,none⟩ mm k6 (PS.take mm) rfl HPI.out HU1.out HS6.out ?_;intro v7 w7 h1 h2;have HO7:=h1;have HB7:=Qh (HBD.out.trans (h2.out.below HS6.out (fun k hk e=> by have:=e.1;omega)));have HI7:=Qh (HBH.out _ (HID.out.kept h2.out (fun b2 o2 e hb2 hh=> by cases e;have:=hh.1;omega)));clear h1 h2)
       | (with_reducible refine qe6 rfl _ _ rfl w6.heap.size v7 (([]:List Nat)++PS.take mm) rfl HO7.out AD (i - e1) (k6 - e1) (PS.drop e1) rfl HI7.out HU2.out HB7.out.size ?_;intro v8 w8 h1 h2;have HO8:=h1;have HB8:=Qh (HB7.out.trans (h2.out.below HB7.out.size (fun k hk e=> by have:=e.1;omega)));clear h1 h2))
      all_goals
       go_wp2_with fail;go_roundg g
       case measure=> omega
       case rel=>
        refine ⟨S2,out++SQ,HRG,by omega,HNX,Qh ⟨HO6.out.below HB8.out, ?_⟩,Qh (HB6.out.trans (HB8.out.mono HB6.out.size))⟩
        rw [←HMP.out,←HE1.out];exact HO8.out.mono HB6.out.size
     | succ h=>
      have hiS:i < S.length:=by rw [HSL.out];omega
      obtain ⟨x0, -, -, -⟩:=HC.out wr HKY.out.1
      have yi:wr.cell? ⟨g6,i,none⟩=some (.int .i64 (S[i].1:Int)):=by
       have h:=HKY.out.2.1.cell (i:=i) (by rw [List.length_map];exact hiS)
       rw [List.getElem_map,Nat.zero_add]at h
       exact h
      obtain ⟨pi1,pi2⟩:=HX.out.rs.at_ hiS
      obtain ⟨pm1,pm2⟩:=HX.out.rs.at_ hmS
      have zi:=HCELL.out wr HKY.out.1 S[i].1 pi1
      have zm:=HCELL.out wr HKY.out.1 S[mm].1 pm1
      rw [pi2]at zi
      rw [pm2]at zm
      have hpi:=HLN.out _ pi1
      have hpm:=HLN.out _ pm1
      have hi1:(i:Int) < (n6:Int):=by omega
      have hi0:(0:Int)≤(i:Int):=by omega
      have HKE:=Qh (fun (hk:oo=true→ltF (Js.keyOf S[i].2) (Js.keyOf S[mm].2)=false)=> HLs.out.keep HX.out.rs hiS hmS hk)
      have HTU:=Qh (fun (ho:oo=true) (hk:ltF (Js.keyOf S[i].2) (Js.keyOf S[mm].2)=true)=> HLs.out.turn ho hiS hmS hk)
      have hbl:Op.bytesLess (sb (Js.keyOf S[i].2)).toList (sb (Js.keyOf S[mm].2)).toList=ltF (Js.keyOf S[i].2) (Js.keyOf S[mm].2):=by rw [qab,qab,qoz]
      clear pi1 pi2 pm1 pm2 HLs HKY HPT HX;generalize ltF (Js.keyOf S[i].2) (Js.keyOf S[mm].2)=lt at*;generalize hki:sb (Js.keyOf S[i].2)=ki at*;clear hki;generalize hkm:sb (Js.keyOf S[mm].2)=km at*;clear hkm;generalize S[i].1=pi at*;generalize S[mm].1=pm at*;by_cases hkd:kd=6
      ·subst hkd
       have hot:oo=true:=HOO.out
       cases lt with
       | true=>
        have HN2:=Qh (HTU.out hot rfl)
        clear HTU HKE;go_upto_region 8 with fail;go_quiet (fail)
        go_wp2_with fail;go_roundg h
        case measure=> omega
        case rel=> exact ⟨i,i+1,rfl,by go_num,by omega,by omega,HN2,Qh (qaa HY.out _)⟩
       | false=>
        have HN2:=Qh (HKE.out (fun _=> rfl))
        clear HTU HKE;go_upto_region 8 with fail;go_quiet (fail)
        go_wp2_with fail;go_roundg h
        case measure=> omega
        case rel=> exact ⟨mm,i+1,rfl,by go_num,by omega,by omega,HN2,Qh (qaa HY.out _)⟩
      ·have hkb:(kd==6)=false:=beq_eq_false_iff_ne.2 hkd
       have hof:oo=false:=by rw [HOO.out];exact decide_eq_false hkd
       have HN2:=Qh (HKE.out (fun e=> by rw [hof]at e;cases e))
       clear HTU HKE;go_upto_region 8 with fail;go_quiet (fail)
       go_wp2_with fail;go_roundg h
       case measure=> omega
       case rel=> exact ⟨mm,i+1,rfl,by go_num,by omega,by omega,HN2,Qh (qaa HY.out _)⟩
theorem qco (w:World) (A:Option Addr) (n c:Nat) (L:List V) (hL:ValsAt w A n c L) (hn:n≤250000) (hs:Short 1000000000 L):
  Calls Tryz.prog 38 #[.slice A n c] w fun e w'=> ∃v',e= .returned v'∧Hid (OwnVals w' w.heap.size v' (if rightPF L=true then sortF L.length L else [])∧Below w.heap.size w w'):=by
 have hlen:=hL.len
 have HR:=Qh (qhy w A n c L hL (by omega) hs)
 by_cases hr:rightPF L=true
 ·rw [if_pos hr]
  rw [hr]at HR
  obtain ⟨t,ht⟩:=(qa4 L).1 hr
  have h5:=ht.1
  obtain ⟨v,r,t1,rfl,hone,rfl⟩:=q0f ht
  have HA:=Qh (fun W (k:Below w.heap.size w W)=> qth 50 (v::r).length 0 0 c false v r [] t1 W A (v::r) rfl hone (by rw [List.append_nil];rfl) (Nat.le_refl _) h5 (by rw [hlen];exact hL.below k) (by rw [hlen];exact hn))
  rw [hlen]at HA
  rw [hlen];clear hL hs ht hone hr;generalize sortF n (v::r)=SL at*;go_enter Tryz.func38,Tryz.ntmps38
  go_wp2_with fail;refine HR.out.mono ?_
  rintro e w2 ⟨rfl,HB⟩;have HAA:=Qh (HA.out w2 HB.out)
  clear HR HA;go_wp2_with fail;refine HAA.out.mono ?_
  rintro e w3 ⟨v3,rfl,H3⟩;have HX:=Qh (And.intro (H3.out.1.mono HB.out.size) (HB.out.trans (H3.out.2.mono HB.out.size)))
  clear H3 HAA;go_wp2_with fail;go_ret;exact ⟨v3,rfl,HX⟩
 ·rw [if_neg hr]
  rw [Bool.not_eq_true]at hr
  rw [hr]at HR
  clear hL hs hr;go_enter Tryz.func38,Tryz.ntmps38
  go_wp2_with fail;refine HR.out.mono ?_
  rintro e w2 ⟨rfl,HB⟩;clear HR;go_wp2_with fail;go_ret;exact ⟨.slice none 0 0,rfl,Qh ⟨OwnVals.nil _ _,HB.out⟩⟩
end Go.Proofs.YtgmangikcfakgaaGreatDoor
