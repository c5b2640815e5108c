import Derived.Test.YtmkjcleecjjchaaGreatDoorP9
import Derived.Test.YtmkjcleecjjchaaGreatDoorP37
import Derived.Test.YtmkjcleecjjchaaGreatDoorP6
namespace Go.Proofs.YtmkjcleecjjchaaGreatDoor
open Go.RowKit Sh Jt Js
def iv (k:Nat):Value:= .int .i64 (k:Int)
structure IntsAt (w:World) (A:Option Addr) (n c:Nat) (P:List Nat):Prop where
 len:P.length=n
 cap:n≤c
 at_:0 < n→∃b o,A=some ⟨b,o,none⟩∧b < w.heap.size∧w.rangeAt b o (P.map iv)
theorem IntsAt.kept {w w':World} {S:Nat→Prop} {A:Option Addr} {n c:Nat} {P:List Nat} (h:IntsAt w A n c P) (k:Kept w w' S) (hS:∀b o,A=some ⟨b,o,none⟩→b < w.heap.size→¬S b):IntsAt w' A n c P:=
 ⟨h.len,h.cap,fun hn=> by
  obtain ⟨b,o,e,hlt,hr⟩:=h.at_ hn
  exact ⟨b,o,e,Nat.lt_of_lt_of_le hlt k.size,rangeAt_kept hr k (hS b o e hlt)⟩⟩
theorem IntsAt.below {w w':World} {A:Option Addr} {n c:Nat} {P:List Nat} (h:IntsAt w A n c P) (hb:Below w.heap.size w w'):IntsAt w' A n c P:=h.kept (kept_below hb) (fun _ _ _ _ h=> h)
theorem IntsAt.cell {w:World} {b o n c:Nat} {P:List Nat} (h:IntsAt w (some ⟨b,o,none⟩) n c P) {i:Nat} (hi:i < P.length):w.cell? ⟨b,o+i,none⟩=some (.int .i64 (P[i]:Int)):=by
 obtain ⟨b',o',e,_,hr⟩:=h.at_ (by have:=h.len;omega)
 cases e
 exact hr i _ (by rw [List.getElem?_map,List.getElem?_eq_getElem hi];rfl)
theorem IntsAt.pre {w:World} {A:Option Addr} {n c:Nat} {P:List Nat} (h:IntsAt w A n c P) {m:Nat} (hm:m≤n):IntsAt w A m c (P.take m):=by
 have hl:=h.len
 have hc:=h.cap
 refine ⟨by rw [List.length_take];omega,by omega,fun h0=> ?_⟩
 obtain ⟨b,o,e,hlt,hr⟩:=h.at_ (by omega)
 refine ⟨b,o,e,hlt,fun j v hj=> hr j v ?_⟩
 rw [List.map_take,List.getElem?_take]at hj
 split at hj
 ·exact hj
 ·cases hj
theorem IntsAt.behind {w:World} {b o n c:Nat} {P:List Nat} (h:IntsAt w (some ⟨b,o,none⟩) n c P) {m:Nat} (hm:m≤n) {AD:Addr} (hA:(if c=m then some (⟨b,o,none⟩:Addr) else some ⟨b,o+m,none⟩)=some AD):IntsAt w (some AD) (n - m) (c - m) (P.drop m):=by
 have hl:=h.len
 have hc:=h.cap
 refine ⟨by rw [List.length_drop];omega,by omega,fun h0=> ?_⟩
 obtain ⟨b',o',e,hlt,hr⟩:=h.at_ (by omega)
 cases e
 rw [if_neg (by omega)]at hA
 cases hA
 refine ⟨b,o+m,rfl,hlt,fun j v hj=> ?_⟩
 rw [List.map_drop,List.getElem?_drop]at hj
 have:=hr _ _ hj
 rwa [←Nat.add_assoc]at this
theorem IntsAt.one (w:World) (k:Nat):IntsAt (w.alloc (.cells #[iv k] 3)) (some ⟨w.heap.size,0,none⟩) 1 1 [k]:=by
 have r:=Row.new w 3 [iv k]
 exact ⟨rfl,Nat.le_refl _,fun _=> ⟨_,0,rfl,r.lt,r.range 0 _ (fun j v hj=> by rw [Nat.zero_add];exact hj)⟩⟩
def OwnInts (w:World) (B:Nat) (v:Value) (P:List Nat):Prop:=w.ownsRow B 3 1 v P.length (P.map iv)
theorem OwnInts.nil (w:World) (B:Nat):OwnInts w B (.slice none 0 0) []:=⟨rfl, .inl ⟨rfl,rfl⟩⟩
theorem OwnInts.made (w:World):OwnInts (w.alloc (.cells #[] 3)) w.heap.size (.slice (some ⟨w.heap.size,0,none⟩) 0 0) []:=
 ⟨rfl, .inr ⟨w.heap.size,0,#[],rfl,Nat.le_refl _,heap_alloc_new w _,Nat.le_refl _,Nat.zero_le _,rfl,rfl⟩⟩
theorem OwnInts.kept {w w':World} {S:Nat→Prop} {B:Nat} {v:Value} {P:List Nat} (h:OwnInts w B v P) (k:Kept w w' S) (hS:∀b,v.ownBlock=some b→¬S b):OwnInts w' B v P:=by
 obtain ⟨hl,h1 | ⟨g,cap,cur,rfl,hg,hh,hn,hc,hs,ht⟩⟩:=h
 ·exact ⟨hl, .inl h1⟩
 ·exact ⟨hl, .inr ⟨g,cap,cur,rfl,hg,(k.block g (Array.getElem?_eq_some_iff.1 hh).1 (hS g rfl)).trans hh,hn,hc,hs,ht⟩⟩
theorem OwnInts.below {w w':World} {B:Nat} {v:Value} {P:List Nat} (h:OwnInts w B v P) (hb:Below w.heap.size w w'):OwnInts w' B v P:=h.kept (kept_below hb) (fun _ _ h=> h)
theorem OwnInts.mono {w:World} {B B':Nat} {v:Value} {P:List Nat} (h:OwnInts w B v P) (hB:B'≤B):OwnInts w B' v P:=by
 obtain ⟨hl,h1 | ⟨g,cap,cur,rfl,hg,rest⟩⟩:=h
 ·exact ⟨hl, .inl h1⟩
 ·exact ⟨hl, .inr ⟨g,cap,cur,rfl,Nat.le_trans hB hg,rest⟩⟩
theorem OwnInts.ints {w:World} {B:Nat} {v:Value} {P:List Nat} (h:OwnInts w B v P):(P=[]∧∃A c,v= .slice A 0 c)∨∃g c,v= .slice (some ⟨g,0,none⟩) P.length c∧IntsAt w (some ⟨g,0,none⟩) P.length c P∧g < w.heap.size∧B≤g:=by
 obtain ⟨hl,⟨rfl,h0⟩ | ⟨g,cap,cur,rfl,hg,hh,hn,hc,hs,ht⟩⟩:=h
 ·exact .inl ⟨List.eq_nil_of_length_eq_zero h0,none,0,rfl⟩
 ·have hlt:=(Array.getElem?_eq_some_iff.1 hh).1
  refine .inr ⟨g,cap,rfl,⟨rfl,hn,fun _=> ⟨g,0,rfl,hlt,fun j u hj=> ?_⟩⟩,hlt,hg⟩
  have hjl:=(List.getElem?_eq_some_iff.1 hj).1
  rw [List.length_map]at hjl
  rw [cell_of_row _ _ _ _ _ _ hh,Nat.zero_add,←hj,←ht,List.getElem?_take,if_pos (by omega)]
  simp
theorem OwnInts.none0 {w:World} {B:Nat} {v:Value} (h:OwnInts w B v []):∃A c,v= .slice A 0 c:=by
 rcases h.ints with ⟨_,h⟩ | ⟨g,c,e,_⟩
 ·exact h
 ·exact ⟨_,_,e⟩
theorem OwnInts.some1 {w:World} {B n:Nat} {v:Value} {P:List Nat} (h:OwnInts w B v P) (hn:P.length=n) (h0:0 < n):∃g c,v= .slice (some ⟨g,0,none⟩) n c∧IntsAt w (some ⟨g,0,none⟩) n c P∧g < w.heap.size∧B≤g∧n≤c:=by
 subst hn
 rcases h.ints with ⟨e,_⟩ | ⟨g,c,e,h1,h2,h3⟩
 ·rw [e]at h0
  exact absurd h0 (Nat.lt_irrefl _)
 ·exact ⟨g,c,e,h1,h2,h3,h1.cap⟩
theorem ints_apart {w:World} {B B2:Nat} {v u:Value} {L:List V} {P:List Nat} (h:OwnVals w B v L) (h2:OwnInts w B2 u P):∀k,v.ownBlock=some k→¬u.ownBlock=some k:=by
 intro k hk hk2
 obtain ⟨hl,⟨rfl,_⟩ | ⟨g,cap,cur,rfl,hg,hh,_⟩⟩:=h
 ·cases hk
 ·obtain ⟨hl2,⟨rfl,_⟩ | ⟨g2,cap2,cur2,rfl,hg2,hh2,_⟩⟩:=h2
  ·cases hk2
  ·obtain rfl:g=k:=Option.some.inj hk
   obtain rfl:g2=g:=Option.some.inj hk2
   rw [hh]at hh2
   simp only [Option.some.injEq,Obj.cells.injEq]at hh2
   exact absurd hh2.2 (by simp)
theorem js_infoI:∃i,Tryz.prog.info? 3=some i∧i.zero=some (.int .i64 0)∧i.size=1∧i.bytes=8:=by
 have h:(Tryz.prog.info? 3).map (fun i=> (i.zero,i.size,i.bytes))=some (some (.int .i64 0),1,8):=by kernel_rfl
 obtain ⟨i,hi,hz⟩:=Option.map_eq_some_iff.1 h
 simp only [Prod.mk.injEq]at hz
 exact ⟨i,hi,hz.1,hz.2.1,hz.2.2⟩
theorem run_append_ints {w:World} (ty:TypeId) (B:Nat) (v:Value) (P:List Nat) (hown:OwnInts w B v P) (ad:Addr) (n c:Nat) (M:List Nat) (hsrc:IntsAt w (some ad) n c M) (hb:P.length+n≤1000000000000) (hB:B≤w.heap.size):
  ∃v' w',(Builtin.append_ #[126,126] ty #[v, .slice (some ad) n c]).run Tryz.prog w= .ok v' w'∧OwnInts w' B v' (P++M)∧Kept w w' (fun k=> B≤k∧v.ownBlock=some k):=by
 obtain ⟨i,hi,hz,hsz,hby⟩:=js_infoI
 have hlen:=hsrc.len
 have hnews:∀j u,(M.map iv)[j]? =some u→w.cell? (ad.add j)=some u:=by
  intro j u hj
  have hjl:=(List.getElem?_eq_some_iff.1 hj).1
  rw [List.length_map]at hjl
  obtain ⟨b,off,e,_,hr⟩:=hsrc.at_ (by omega)
  simp only [Option.some.injEq]at e
  subst e
  rw [Addr.add_mid]
  exact hr j u hj
 obtain ⟨v',w',hr,h2,h3,h4,h5⟩:=run_append_own_at (P:=Tryz.prog) w B 126 ty 3 i (.int .i64 0) 1 8 Tryz.underlying126 hi hz hsz hby rfl (by decide) v P.length (P.map iv) hown ad n c (M.map iv)
  (by rw [List.length_map,hlen,Nat.mul_one]) hnews (fun v hv=> by obtain ⟨k,_,rfl⟩:=List.mem_map.1 hv;rfl) (by unfold maxLen;omega) (by omega) hB
 refine ⟨v',w',hr, ?_, ?_⟩
 ·show w'.ownsRow B _ 1 v' (P++M).length ((P++M).map iv)
  rw [List.length_append,hlen,List.map_append]
  exact h2
 ·refine ⟨h3.os,h3.tape,h3.output,h3.size,fun k hk hn=> h3.block k hk (fun e=> hn ?_)⟩
  obtain ⟨_,⟨rfl,_⟩ | ⟨g,cap,cur,rfl,hg,_⟩⟩:=hown
  ·cases e
  ·have e':g=k:=by simpa [Value.ownBlock] using e.symm
   subst e'
   exact ⟨hg,rfl⟩
theorem append_ints {w:World} {ops:Array Oper} {rest:List Oper} {o:Oper} {a:Act} {Q:Exit→Act→World→Prop} (hg:o.guard=none) (s x:Operand)
  (ho:o.op= .call {callee:= .builtin .append,args:=#[s,x],argTypes:=#[126,126]}) (B:Nat) (v:Value) (P:List Nat) (hs:a.eval s=v) (hown:OwnInts w B v P)
  (ad:Addr) (n c:Nat) (M:List Nat) (hx:a.eval x= .slice (some ad) n c) (hsrc:IntsAt w (some ad) n c M) (hb:P.length+n≤1000000000000) (hB:B≤w.heap.size)
  (h:∀v' w',Hid (OwnInts w' B v' (P++M))→Hid (Kept w w' (fun k=> B≤k∧v.ownBlock=some k))→wpList Tryz.prog ops Q rest (a.put o.dst v') w'):wpList Tryz.prog ops Q (o::rest) a w:=by
 obtain ⟨v',w',hr,h2,h3⟩:=run_append_ints o.type B v P hown ad n c M hsrc hb hB
 refine wpList_wanted (by simp [Region.wanted,hg]) fun K hK=> ?_
 unfold Oper.wp execOp
 simp only [ho,resolve,invoke,builtin,Sem.run_bind,Sem.run_pure,Result.andThen_ok,List.map_toArray,List.map_cons,List.map_nil,hs,hx,hr]
 exact hK _ _ (h v' w' (Lib.hid h2) (Lib.hid h3))
end Go.Proofs.YtmkjcleecjjchaaGreatDoor
namespace Go.Proofs.YtmkjcleecjjchaaGreatDoor
open Go.RowKit Sh Jt Js
theorem build_int1 {ops:Array Oper} {rest:List Oper} {o:Oper} {a:Act} {w:World} {Q:Exit→Act→World→Prop} (hg:o.guard=none) (x:Operand) (ho:o.op= .buildSlice 126 1 #[(0,x)]) (k:Nat) (hx:a.eval x= .int .i64 (k:Int))
  (h:wpList Tryz.prog ops Q rest (a.put o.dst (.slice (some ⟨w.heap.size,0,none⟩) 1 1)) (w.alloc (.cells #[iv k] 3))):wpList Tryz.prog ops Q (o::rest) a w:=by
 obtain ⟨i,hi,hz,hsz,_⟩:=js_infoI
 refine wpList_buildSlice hg 126 3 1 #[(0,x)] ho #[iv k] i _ Tryz.underlying126 hi hz (by rw [hsz];decide) (by rw [hsz];decide) ?_ h
 rw [hsz]
 have e:(Array.map (fun (p:Nat×Operand)=> (p.1,a.eval p.2)) #[(0,x)]).toList=[(0,iv k)]:=by simp [hx,iv]
 show Instr.fill _ _ (Array.map (fun (p:Nat×Operand)=> (p.1,a.eval p.2)) #[(0,x)]).toList=_
 rw [e,show Array.range (1*1)=#[0]from by decide]
 simp [Instr.fill,Value.cells,iv]
theorem below_drewS {B:Nat} {w w2:World} (h:Below B w w2):Below B w w2.drew:=below_drewN h 1
theorem at_drop {L x:List V} {k:Nat} {v:V} (h:L.drop k=v::x):∃hk:k < L.length,L[k]=v:=by
 have hk:k < L.length:=by
  have:=congrArg List.length h
  rw [List.length_drop,List.length_cons]at this
  omega
 refine ⟨hk, ?_⟩
 rw [List.drop_eq_getElem_cons hk]at h
 exact (List.cons.inj h).1
set_option maxRecDepth 100000 in
set_option maxHeartbeats 8000000 in
theorem js_rkidsF (w:World) (A:Option Addr) (c:Nat) (L:List V) (hL:ValsAt w A L.length c L) (hn:L.length≤250000) (a d:Nat) (ob:Bool) (v:V) (r x:List V) (t:List UInt8) (h1:One d ob v r t) (hd:L.drop a=v::(r++x)):
  Calls Tryz.prog 107 #[.slice A L.length c, .int .i64 (a:Int)] w fun e w'=> ∃v',e= .returned v'∧Hid (OwnInts w' w.heap.size v' ((placesF (a+1) (ownParts v r)).map (·.1))∧Below w.heap.size w w'):=by
 obtain ⟨ha,hv⟩:=at_drop hd
 obtain ⟨b,o,rfl,hb,_⟩:=hL.at_ (by omega)
 have HE:=Lib.hid (fun W (q:Below w.heap.size w W) (k e:Nat) (hk:k < L.length) (h:endW (L.drop k) 1=some e)=> js_rend W (some ⟨b,o,none⟩) c L (hL.below q) hn k e hk h)
 have HC:=Lib.hid (fun W (q:Below w.heap.size w W)=> (hL.below q).cells ha)
 rw [hv]at HC
 obtain ⟨hc1,hc2⟩:=KidS.count h1
 have hm9:(ownParts v r).length≤250000:=by
  have:=congrArg List.length hd
  rw [List.length_drop,List.length_cons,List.length_append]at this
  omega
 have HS:=Lib.hid (KidS.start h1 hd)
 rw [←hc1]at HC
 clear hL hv h1 hd hc1 hc2
 generalize placesF (a+1) (ownParts v r)=All at*
 generalize ownParts v r=P at*
 obtain ⟨m,hm⟩:∃m,m=P.length:=⟨_,rfl⟩
 rw [←hm]at HC hm9
 have HM:=Lib.hid hm
 clear hm
 generalize isObj v=oo at*
 have ha9:(a:Int) < (L.length:Int):=by omega
 go_enter Tryz.func107,Tryz.ntmps107
 go_wp2_with fail
 go_loopg [5,6,7] m (fun g v5 v6 v7 wx=> ∃(D:List (Nat×List V)) (k i:Nat) (R:List (List V)),v6= .int .i64 (k:Int)∧v7= .int .i64 (i:Int)∧i+g=m∧Hid (R.length=g∧D.length=i)∧Hid (KidS L x (d+1) oo All D k R)∧Hid (OwnInts wx w.heap.size v5 (D.map (·.1))∧Below w.heap.size w wx))
 case atStart=> exact ⟨[],a+1,0,P,by go_num,rfl,by omega,Lib.hid ⟨HM.out.symm,rfl⟩,HS,Lib.hid ⟨OwnInts.nil _ _,Below.refl _ _⟩⟩
 case round=>
  clear HS HM
  obtain ⟨D,k,i,R,rfl,rfl,hig,HN,HK,HO⟩:=hrel
  obtain ⟨x0,x1,x2,x3⟩:=HC.out wr HO.out.2
  cases gk with
  | zero=>
   obtain rfl:i=m:=by omega
   have hge:¬(i:Int) < (i:Int):=by omega
   have HR:Hid (All=D):=Lib.hid (by
    have h2:=HK.out.eq
    rw [List.eq_nil_of_length_eq_zero HN.out.1]at h2
    exact h2.trans (List.append_nil D))
   clear HK HN HC HE
   go_wp2_with fail
   go_ret
   exact ⟨_,rfl,Lib.hid ⟨by rw [HR.out];exact HO.out.1,HO.out.2⟩⟩
  | succ g=>
   have hlt:(i:Int) < (m:Int):=by omega
   match R,HN with
   | [],HN=> exact absurd HN.out.1 (Nat.succ_ne_zero g).symm
   | p::R,HN=>
    obtain ⟨q1,q2,q3⟩:=HK.out.next
    have HK2:=Lib.hid q3
    have HE2:=Lib.hid (fun W q=> HE.out W q k p.length q1 q2)
    have HBL:=Lib.hid (show OwnInts (wr.alloc (.cells #[iv k] 3)) w.heap.size u5 (D.map (·.1))from HO.out.1.below (below_alloc wr _))
    have hDl:(D.map (·.1)).length≤250000:=by rw [List.length_map,HN.out.2];omega
    have HDL:=Lib.hid hDl
    have HSZ:=Lib.hid (show w.heap.size≤(wr.alloc (.cells #[iv k] 3)).heap.size from Nat.le_trans HO.out.2.size (below_alloc wr _).size)
    have HBA:=Lib.hid (HO.out.2.trans ((below_alloc wr (.cells #[iv k] 3)).mono HO.out.2.size))
    clear q1 q2 q3 HE hDl
    go_wp2_with (first
     | (with_reducible refine build_int1 rfl _ rfl k rfl ?_)
     | (at_builtin;go_must (with_reducible refine append_ints rfl _ _ rfl w.heap.size u5 (D.map (·.1)) rfl HBL.out ⟨wr.heap.size,0,none⟩ 1 1 [k] rfl (IntsAt.one wr k) (by have:=HDL.out;omega) HSZ.out ?_;intro v4 w4 h1 h2;have HB4:=Lib.hid (HBA.out.trans (h2.out.below HSZ.out (fun i hi e=> by have:=e.1;omega)));have HO4:=h1;clear h1 h2)))
    have HEX:=Lib.hid (HE2.out w4 HB4.out)
    clear HE2 HBL HBA HSZ
    go_wp2_with fail
    refine HEX.out.mono ?_
    rintro e w5 ⟨rfl,K5⟩
    have HB5:=Lib.hid (HB4.out.trans (K5.out.mono HB4.out.size))
    have HO5:=Lib.hid (show OwnInts w5 w.heap.size v4 ((D++[(k,p)]).map (·.1))from by rw [List.map_append];exact HO4.out.below K5.out)
    clear HO4 K5 HEX HB4 HO
    go_wp2_with fail
    go_roundg g
    case measure=> omega
    case rel=> exact ⟨D++[(k,p)],k+p.length,i+1,R,rfl,by go_num,by omega,Lib.hid ⟨by have:=HN.out.1;rw [List.length_cons]at this;omega,by rw [List.length_append,HN.out.2];rfl⟩,HK2,Lib.hid ⟨HO5.out,HB5.out⟩⟩
end Go.Proofs.YtmkjcleecjjchaaGreatDoor
