import Derived.Test.YtmkjcleecjjchaaGreatDoorP25
namespace Go.Proofs.YtmkjcleecjjchaaGreatDoor
open Go.RowKit Sh Jt Js Jo
def strL (ks:List (List UInt8)):List Value:=ks.map fun k=> Value.string (sb k)
theorem strL_len (ks:List (List UInt8)):(strL ks).length=ks.length:=List.length_map _
theorem strL_one (ks:List (List UInt8)):∀v∈strL ks,v.oneCell'=true:=by
 intro v hv
 obtain ⟨k,_,rfl⟩:=List.mem_map.1 hv
 rfl
def OwnStrs (w:World) (B:Nat) (v:Value) (ks:List (List UInt8)):Prop:=w.ownsRow B 9 1 v ks.length (strL ks)
theorem OwnStrs.nil (w:World) (B:Nat):OwnStrs w B (.slice none 0 0) []:=⟨rfl, .inl ⟨rfl,rfl⟩⟩
theorem OwnStrs.below {w w':World} {B:Nat} {v:Value} {ks:List (List UInt8)} (h:OwnStrs w B v ks) (hb:Below w.heap.size w w'):OwnStrs w' B v ks:=by
 obtain ⟨hl,h1 | ⟨g,cap,cur,rfl,hg,hh,hn,hc,hs,ht⟩⟩:=h
 ·exact ⟨hl, .inl h1⟩
 ·exact ⟨hl, .inr ⟨g,cap,cur,rfl,hg,(hb.block g (Array.getElem?_eq_some_iff.1 hh).1).trans hh,hn,hc,hs,ht⟩⟩
theorem OwnStrs.mono {w:World} {B B':Nat} {v:Value} {ks:List (List UInt8)} (h:OwnStrs w B v ks) (hB:B'≤B):OwnStrs w B' v ks:=by
 obtain ⟨hl,h1 | ⟨g,cap,cur,rfl,hg,rest⟩⟩:=h
 ·exact ⟨hl, .inl h1⟩
 ·exact ⟨hl, .inr ⟨g,cap,cur,rfl,Nat.le_trans hB hg,rest⟩⟩
theorem OwnStrs.strs {w:World} {B:Nat} {v:Value} {ks:List (List UInt8)} (h:OwnStrs w B v ks):∃(A:Option Addr) (c:Nat),v= .slice A ks.length c∧StrsAt w A ks.length c ks:=by
 obtain ⟨hl,⟨rfl,h0⟩ | ⟨g,cap,cur,rfl,hg,hh,hn,hc,hs,ht⟩⟩:=h
 ·have:ks=[]:=List.eq_nil_of_length_eq_zero h0
  subst this
  exact ⟨none,0,rfl,rfl,Nat.le_refl _,fun h=> absurd h (by decide)⟩
 ·have hlt:=(Array.getElem?_eq_some_iff.1 hh).1
  refine ⟨some ⟨g,0,none⟩,cap,rfl,rfl,hn,fun _=> ⟨g,0,rfl,hlt,fun j u hj=> ?_⟩⟩
  have hjl:=(List.getElem?_eq_some_iff.1 hj).1
  rw [List.length_map]at hjl
  have ht2:List.take (ks.length*1) cur.toList=ks.map fun k=> Value.string (sb k):=ht
  rw [cell_of_row _ _ _ _ _ _ hh,Nat.zero_add,←hj,←ht2,List.getElem?_take,if_pos (by omega)]
  simp
theorem append_strs {w:World} {ops:Array Oper} {rest:List Oper} {o:Oper} {a:Act} {Q:Exit→Act→World→Prop} (hg:o.guard=none) (s x:Operand)
  (ho:o.op= .call {callee:= .builtin .append,args:=#[s,x],argTypes:=#[50,50]}) (B:Nat) (v:Value) (ks:List (List UInt8)) (hs:a.eval s=v) (hown:OwnStrs w B v ks)
  (ad:Addr) (n c:Nat) (ms:List (List UInt8)) (hx:a.eval x= .slice (some ad) n c) (hsrc:StrsAt w (some ad) n c ms) (hb:ks.length+n≤1000000000000) (hB:B≤w.heap.size)
  (h:∀v' w',Hid (OwnStrs w' B v' (ks++ms))→Hid (Kept w w' (fun k=> B≤k∧v.ownBlock=some k))→wpList Tryz.prog ops Q rest (a.put o.dst v') w'):wpList Tryz.prog ops Q (o::rest) a w:=by
 obtain ⟨i,hi,hz,hsz,hby⟩:=jo_infoStr
 have hlen:=hsrc.len
 have hnews:∀j u,(strL ms)[j]? =some u→w.cell? (ad.add j)=some u:=by
  intro j u hj
  have hjl:=(List.getElem?_eq_some_iff.1 hj).1
  rw [strL_len]at hjl
  obtain ⟨b,off,e,_,hr⟩:=hsrc.at_ (by omega)
  simp only [Option.some.injEq]at e
  subst e
  rw [Addr.add_mid]
  exact hr j u hj
 obtain ⟨v',w',hr,h2,h3,h4,h5⟩:=run_append_own_at (P:=Tryz.prog) w B 50 o.type 9 i (.string ⟨#[]⟩) 1 16 Tryz.underlying50 hi hz hsz hby rfl (by decide) v ks.length (strL ks) hown ad n c (strL ms)
  (by rw [strL_len,hlen,Nat.mul_one]) hnews (strL_one ms) (by unfold maxLen;omega) (by omega) hB
 refine wpList_wanted (by simp [Region.wanted,hg]) fun K hK=> ?_
 unfold Oper.wp execOp
 simp only [ho,resolve,invoke,builtin,Sem.run_bind,Sem.run_pure,Result.andThen_ok,List.map_toArray,List.map_cons,List.map_nil,hs,hx,hr]
 refine hK _ _ (h v' w' ?_ ?_)
 ·show w'.ownsRow B _ 1 v' (ks++ms).length (strL (ks++ms))
  rw [List.length_append,hlen,show strL (ks++ms)=strL ks++strL ms from List.map_append]
  exact h2
 ·refine ⟨h3.os,h3.tape,h3.output,h3.size,fun k hk hn=> h3.block k hk (fun e=> hn ?_)⟩
  obtain ⟨_,⟨rfl,_⟩ | ⟨g,cap,cur,rfl,hg,_⟩⟩:=hown
  ·cases e
  ·have e':g=k:=by simpa [Value.ownBlock] using e.symm
   subst e'
   exact ⟨hg,rfl⟩
theorem run_build_str1 (W:World) (a:ByteArray):(Instr.buildSlice 50 1 #[(0, .string a)]).run Tryz.prog W= .ok (.slice (some ⟨W.heap.size,0,none⟩) 1 1) (W.alloc (.cells #[.string a] 9)):=by
 obtain ⟨i,hi,hz,hsz,_⟩:=jo_infoStr
 refine run_buildSlice (P:=Tryz.prog) W 50 9 1 #[(0, .string a)] #[.string a] i _ Tryz.underlying50 hi hz (by rw [hsz];decide) (by rw [hsz];decide) ?_
 rw [hsz]
 rw [show Array.range (1*1)=#[0]from by decide]
 simp [Instr.fill,Value.cells]
theorem StrsAt.new1 (w:World) (a:List UInt8):StrsAt (w.alloc (.cells #[.string (sb a)] 9)) (some ⟨w.heap.size,0,none⟩) 1 1 [a]:=by
 have r:=Row.new w 9 [.string (sb a)]
 exact ⟨rfl,Nat.le_refl _,fun _=> ⟨_,0,rfl,r.lt,r.range 0 _ (fun j v hj=> by rw [Nat.zero_add];exact hj)⟩⟩
end Go.Proofs.YtmkjcleecjjchaaGreatDoor
