import Derived.Test.YtgmangikcfakgaaGreatDoorPL19
import Derived.Test.YtgmangikcfakgaaGreatDoorPL23
import Derived.Test.YtgmangikcfakgaaGreatDoorPL8
import Derived.Test.YtgmangikcfakgaaGreatDoorPL26
import Derived.Test.YtgmangikcfakgaaGreatDoorPL27
import Derived.Test.YtgmangikcfakgaaGreatDoorPL24
namespace Go.Proofs.YtgmangikcfakgaaGreatDoor
open Go Jt
namespace Js
theorem skip_short:∀s:List UInt8,(skip s).length≤s.length
 | []=> Nat.le_refl _
 | a::r=> by
  rw [skip]
  split
  ·exact Nat.le_trans (skip_short r) (Nat.le_succ _)
  ·exact Nat.le_refl _
theorem Short.one {M:Nat} {v:V} (h1:v.key.length≤M) (h2:v.text.length≤M):Short M [v]:=fun x hx=> by
 rw [List.mem_singleton.1 hx]
 exact ⟨h1,h2⟩
theorem Short.cons {M:Nat} {v:V} {l:List V} (h1:v.key.length≤M) (h2:v.text.length≤M) (h:Short M l):Short M (v::l):=fun x hx=> by
 rcases List.mem_cons.1 hx with rfl | hx
 ·exact ⟨h1,h2⟩
 ·exact h x hx
theorem Short.app {M:Nat} {l k:List V} (h1:Short M l) (h2:Short M k):Short M (l++k):=fun x hx=> by
 rcases List.mem_append.1 hx with hx | hx
 ·exact h1 x hx
 ·exact h2 x hx
theorem word_short {w s:List UInt8} {v:V} {n:Nat} {l:List V} {r:List UInt8} {M:Nat} (hv:Short M [v]) (h:wordF w s v= .ok n l r):Short M l:=by
 obtain ⟨_,rfl⟩:=word_right h
 exact hv
theorem group_short {K:List UInt8→Res} {kind:Int} {key:List UInt8} {c:UInt8} {s:List UInt8} {n:Nat} {l:List V} {r:List UInt8} {M:Nat} (hk:key.length≤M) (hK:∀n l r,K s= .ok n l r→Short M l) (h:groupF K kind key c s= .ok n l r):Short M l:=by
 have hb:∀ {n:Nat} {l:List V} {r:List UInt8},((K s).bind fun n l r=> .ok 1 (⟨kind,key,[],n⟩::l) r)= .ok n l r→Short M l:=fun h=> by
  obtain ⟨n1,l1,r1,e1,e2⟩:=bind_some h
  obtain ⟨_,rfl,_⟩:=ok_inj e2
  exact .cons hk (Nat.zero_le _) (hK _ _ _ e1)
 unfold groupF at h
 split at h
 ·exact hb h
 ·split at h
  ·obtain ⟨_,rfl,_⟩:=ok_inj h
   exact .one hk (Nat.zero_le _)
  ·exact hb h
theorem val_short {K:Bool→List UInt8→Res} {key:List UInt8} {d c:Nat} {s:List UInt8} {n:Nat} {l:List V} {r:List UInt8} {N:Nat} (hk:key.length≤4*N) (hs:s.length≤N) (hK:∀o s n l r,s.length≤N→K o s= .ok n l r→Short (4*N) l) (h:valW K key d c s= .ok n l r):Short (4*N) l:=by
 have hsk:=skip_short s
 unfold valW at h
 split at h
 ·cases h
 next a u hau=>
  rw [hau,List.length_cons]at hsk
  split at h
  ·cases h
  split at h
  ·cases h
  split at h
  ·exact word_short (.one hk (Nat.zero_le _)) h
  split at h
  ·exact word_short (.one hk (Nat.zero_le _)) h
  split at h
  ·exact word_short (.one hk (Nat.zero_le _)) h
  split at h
  ·unfold stringF at h
   split at h
   next p hp=>
    obtain ⟨_,rfl,_⟩:=ok_inj h
    have:=unq_size (s:=a::u) (x:=p.1) (k:=p.2) hp
    rw [List.length_cons]at this
    exact .one hk (by show p.1.length≤_;omega)
   ·cases h
  split at h
  ·exact group_short hk (fun n l r e=> hK _ _ _ _ _ (by omega) e) h
  split at h
  ·exact group_short hk (fun n l r e=> hK _ _ _ _ _ (by omega) e) h
  ·unfold numberF at h
   split at h
   ·cases h
   ·obtain ⟨_,rfl,_⟩:=ok_inj h
    refine .one hk ?_
    show ((a::u).take _).length≤_
    rw [List.length_take,List.length_cons]
    omega
theorem kids_short (N:Nat):∀(g:Nat) (o:Bool) (d c:Nat) (ks:List (List UInt8)) (s:List UInt8) (n:Nat) (l:List V) (r:List UInt8),s.length≤N→kids g o d c ks s= .ok n l r→Short (4*N) l:=by
 intro g
 induction g with
 | zero=>
  intro o d c ks s n l r _ h
  cases h
 | succ g ih=>
  intro o d c ks s n l r hs h
  rw [kids_one]at h
  obtain ⟨n1,l1,r1,e1,e2⟩:=bind_some h
  have h1:=one_facts e1
  have hl1:Short (4*N) l1:=by
   unfold oneF at e1
   split at e1
   ·unfold nameF at e1
    split at e1
    ·cases e1
    next p hp=>
     split at e1
     ·cases e1
     ·have hsz:=unq_size (s:=skip s) (x:=p.1) (k:=p.2) hp
      have hsk:=skip_short s
      split at e1
      ·cases e1
      next a u hau=>
       split at e1
       ·have h3:=skip_short ((skip s).drop p.2)
        rw [hau,List.length_cons,List.length_drop]at h3
        exact val_short (by omega) (by omega) (fun o s n l r hs e=> ih _ _ _ _ _ _ _ _ hs e) e1
       ·cases e1
   ·exact val_short (Nat.zero_le _) hs (fun o s n l r hs e=> ih _ _ _ _ _ _ _ _ hs e) e1
  have hsk:=skip_short r1
  unfold nextF at e2
  split at e2
  ·cases e2
  next a u hau=>
   rw [hau,List.length_cons]at hsk
   split at e2
   ·obtain ⟨_,rfl,_⟩:=ok_inj e2
    exact hl1
   ·split at e2
    ·obtain ⟨n2,l2,r2,e3,e4⟩:=bind_some e2
     obtain ⟨_,rfl,_⟩:=ok_inj e4
     exact hl1.app (ih _ _ _ _ _ _ _ _ (by omega) e3)
    ·cases e2
theorem parse_short {s:List UInt8} {n:Nat} {l:List V} {r:List UInt8} (h:parseF s= .ok n l r):Short (4*s.length) l:=by
 unfold parseF valF at h
 obtain ⟨n1,l1,r1,e1,e2⟩:=bind_some h
 split at e2
 ·obtain ⟨_,rfl,_⟩:=ok_inj e2
  exact val_short (Nat.zero_le _) (Nat.le_refl _) (fun o s n l r hs e=> kids_short _ _ _ _ _ _ _ _ _ _ hs e) e1
 ·cases e2
end Js
end Go.Proofs.YtgmangikcfakgaaGreatDoor
namespace Go.Proofs.YtgmangikcfakgaaGreatDoor
open Go.RowKit Sh Jt Js Jo
namespace Jo
theorem cf_sort_mem:∀(f d:Nat) (o:Bool) (v:V) (l:List V) (t:List UInt8),l.length+1≤f→One d o v l t→∀x∈sortF f (v::l),x∈v::l:=by
 intro f
 induction f with
 | zero=> intro d o v l t h;omega
 | succ f ih=>
  intro d o v l t hf h x hx
  obtain ⟨s1,_,_,_⟩:=sort_ordP (f:=f) h (by omega)
  rw [s1]at hx
  rcases List.mem_cons.1 hx with rfl | hx
  ·exact List.mem_cons_self
  ·obtain ⟨q,hq,hxq⟩:=List.mem_flatten.1 hx
   obtain ⟨p,hp,rfl⟩:=List.mem_map.1 hq
   have hp2:=(ordP_perm v l).mem_iff.1 hp
   obtain ⟨v2,l2,t2,rfl,o2,hle⟩:=part_one h p hp2
   have:=ih (d+1) (isObj v) v2 l2 t2 (by rw [List.length_cons]at hle;omega) o2 x hxq
   exact List.mem_cons_of_mem _ (((own_ends (own_endP h)).2 _ hp2).2 x this)
theorem short_srt {k:Nat} {L:List V} (hr:rightPF L=true) (h:Short k L):Short k (srt L):=by
 obtain ⟨t,ht⟩:=(prog_is L).1 hr
 obtain ⟨v,r,t1,rfl,h1,_⟩:=row_one' ht
 exact fun x hx=> h x (cf_sort_mem _ 0 false v r t1 (Nat.le_refl _) h1 x hx)
theorem short_sortC {k:Nat} {L:List V} (h:Short k L):Short k (sortA L):=by
 unfold sortA
 split
 next hr=> exact short_srt hr h
 next=> exact fun v hv=> by cases hv
theorem short_listF {k:Nat} {P:List (List V)} (h:∀p∈P,Short k p):Short k (listF P):=by
 intro v hv
 rcases List.mem_cons.1 hv with rfl | hv
 ·exact ⟨Nat.zero_le _,Nat.zero_le _⟩
 ·obtain ⟨q,hq,hx⟩:=List.mem_flatten.1 hv
  exact h q hq v hx
theorem short_listC {P:List (List V)} {k:Nat} (h:∀p∈P,Short k p):Short k (listA P):=by
 unfold listA fineF
 split
 ·split
  ·exact short_listF h
  ·exact fun v hv=> by cases hv
 ·exact fun v hv=> by cases hv
theorem short_cutC {k:Nat} {L:List V} (h:Short k L) (z:Int):Short k (cutA L z):=by
 unfold cutA
 split
 ·exact short_named (short_take (short_drop h _) _) (Nat.zero_le _)
 ·exact fun v hv=> by cases hv
theorem short_root {k:Nat} (hk:100≤k) {ids:List (List UInt8)} (hd:∀d∈ids,d.length=32):Short k (rootV ids):=by
 intro v hv
 unfold rootV at hv
 rcases List.mem_cons.1 hv with rfl | hv
 ·exact ⟨Nat.zero_le _,Nat.zero_le _⟩
 rcases List.mem_cons.1 hv with rfl | hv
 ·exact ⟨Nat.le_trans (show typeK.length≤100 by decide) hk,Nat.le_trans (show layersK.length≤100 by decide) hk⟩
 rcases List.mem_cons.1 hv with rfl | hv
 ·exact ⟨Nat.le_trans (show diffK.length≤100 by decide) hk,Nat.zero_le _⟩
 obtain ⟨q,hq,hx⟩:=List.mem_flatten.1 hv
 obtain ⟨d,hm,rfl⟩:=List.mem_map.1 hq
 have ht:=Dg.text_length d
 have h32:=hd d hm
 rw [List.mem_singleton.1 hx]
 refine ⟨Nat.zero_le _, ?_⟩
 show (Dg.text d).length≤k
 omega
theorem short_oneC {k:Nat} {v:V} (h1:v.key.length≤k) (h2:v.text.length≤k):Short k [v]:=by
 intro x hx
 rw [List.mem_singleton.1 hx]
 exact ⟨h1,h2⟩
theorem short_rowH {k:Nat} (hk:100≤k) {h:Hist} (hw:h.who.length≤k) (hr:Short k h.rest):Short k (rowH h):=by
 have h1:Short k (if h.who=[] then h.rest else setA h.rest byK [⟨4,[],h.who,0⟩]):=by
  split
  ·exact hr
  ·exact short_setA hr (short_oneC (Nat.zero_le _) hw) (Nat.le_trans (show byK.length≤100 by decide) hk)
 unfold rowH
 dsimp only
 split
 ·exact short_setA h1 (short_oneC (Nat.zero_le _) (Nat.zero_le _)) (Nat.le_trans (show emptyK.length≤100 by decide) hk)
 ·exact h1
theorem short_bodyC {k:Nat} (hk:100≤k) {c:Cfg} (hd:DigC c) (h1:Short k c.rest) (h2:∀h∈c.hist,h.who.length≤k∧Short k h.rest):Short k (bodyC c):=by
 have hX:Short k (setA c.rest rootK (rootV c.ids)):=short_setA h1 (short_root hk hd) (Nat.le_trans (show rootK.length≤100 by decide) hk)
 unfold bodyC
 dsimp only
 split
 ·exact hX
 ·refine short_setA hX (short_listC fun p hp=> ?_) (Nat.le_trans (show histK.length≤100 by decide) hk)
  obtain ⟨h,hm,rfl⟩:=List.mem_map.1 hp
  exact short_rowH hk (h2 h hm).1 (h2 h hm).2
theorem short_rowC {k:Nat} (hk:100≤k) {c:Cfg} (hd:DigC c) (h1:Short k c.rest) (h2:∀h∈c.hist,h.who.length≤k∧Short k h.rest):Short k (rowC c):=by
 unfold rowC
 split
 ·exact short_sortC (short_bodyC hk hd h1 h2)
 ·exact fun v hv=> by cases hv
theorem rowC_few (c:Cfg):(rowC c).length≤5000:=by
 rcases row_okC c with h | ⟨_,_,_,h⟩
 ·rw [h];exact Nat.zero_le _
 ·exact right_short h
structure PrintsC (c:Cfg) (t:List UInt8):Prop where
 row:Js.Row (rowC c) t
 back:parseC t= .ok c
 len:t.length≤1000000000
 short:∀k l r,parseF t= .ok k l r→Short 1000000000 l
theorem prints_C {c:Cfg} (hne:rowC c≠[]) (hd:DigC c) (h1:Short 12000 c.rest) (h2:∀h∈c.hist,h.who.length≤12000∧Short 12000 h.rest):∃t,PrintsC c t:=by
 rcases row_okC c with e | ⟨_,_,_,hr⟩
 ·exact absurd e hne
 obtain ⟨t,ht⟩:=(prog_is _).1 hr
 have hs:=short_rowC (by decide) hd h1 h2
 have hl:=rows_len ht.2 hs
 have hf:=rowC_few c
 have hp:=parse_back ht
 refine ⟨t,ht, ?_, ?_,fun k l r h=> ?_⟩
 ·unfold parseC
  rw [hp]
  exact conf_row hne hd
 ·have h6:(rowC c).length*(12*12000+40)≤5000*(12*12000+40):=Nat.mul_le_mul_right _ hf
  omega
 ·rw [hp]at h
  obtain ⟨_,rfl,_⟩:=ok_inj h
  exact short_more hs (by decide)
def rightC (c:Cfg):Bool:=decide (0 < (rowC c).length)
theorem rightC_no {c:Cfg} (h:rowC c=[]):rightC c=false:=by unfold rightC;rw [h];rfl
structure FitH (h:Hist):Prop where
 who:h.who.length≤1048576
 rest:Short 1048576 h.rest
 few:h.rest.length≤250000
structure FitC (c:Cfg):Prop where
 rest:Short 1048576 c.rest
 few:c.rest.length≤250000
 hist:∀h∈c.hist,FitH h
end Jo
end Go.Proofs.YtgmangikcfakgaaGreatDoor
namespace Go.Proofs.YtgmangikcfakgaaGreatDoor
open Go.RowKit Sh Jt Js Jo
structure OwnSls (w:World) (B:Nat) (v:Value) (Q:List Pc):Prop where
 row:w.ownsRow B 26 1 v Q.length (Q.map Pc.enc)
 ins:∀p∈Q,ValsAt w p.at_ p.row.length p.cap p.row
 far:∀p∈Q,∀b o,p.at_=some ⟨b,o,none⟩→b < w.heap.size∧v.ownBlock≠some b
theorem OwnSls.nil (w:World) (B:Nat):OwnSls w B (.slice none 0 0) []:=⟨⟨rfl, .inl ⟨rfl,rfl⟩⟩,fun p h=> (by cases h),fun p h=> (by cases h)⟩
theorem OwnSls.below {w w':World} {B:Nat} {v:Value} {Q:List Pc} (h:OwnSls w B v Q) (hb:Below w.heap.size w w'):OwnSls w' B v Q:=by
 refine ⟨?_,fun p hp=> (h.ins p hp).below hb,fun p hp b o e=> ⟨Nat.lt_of_lt_of_le (h.far p hp b o e).1 hb.size,(h.far p hp b o e).2⟩⟩
 obtain ⟨hl,h1 | ⟨g,cap,cur,rfl,hg,hh,hn,hc,hs,ht⟩⟩:=h.row
 ·exact ⟨hl, .inl h1⟩
 ·exact ⟨hl, .inr ⟨g,cap,cur,rfl,hg,(hb.block g (Array.getElem?_eq_some_iff.1 hh).1).trans hh,hn,hc,hs,ht⟩⟩
theorem OwnSls.sls {w:World} {B:Nat} {v:Value} {Q:List Pc} (h:OwnSls w B v Q):∃(A:Option Addr) (c:Nat),v= .slice A Q.length c∧SlsAt w A Q.length c Q:=by
 obtain ⟨hl,⟨rfl,h0⟩ | ⟨g,cap,cur,rfl,hg,hh,hn,hc,hs,ht⟩⟩:=h.row
 ·have:Q=[]:=List.eq_nil_of_length_eq_zero h0
  subst this
  exact ⟨none,0,rfl,rfl,Nat.le_refl _,(fun h=> absurd h (by decide)),fun p h=> (by cases h)⟩
 ·have hlt:=(Array.getElem?_eq_some_iff.1 hh).1
  refine ⟨some ⟨g,0,none⟩,cap,rfl,rfl,hn,fun _=> ⟨g,0,rfl,hlt,fun j u hj=> ?_⟩,h.ins⟩
  have hjl:=(List.getElem?_eq_some_iff.1 hj).1
  rw [List.length_map]at hjl
  rw [cell_of_row _ _ _ _ _ _ hh,Nat.zero_add,←hj,←ht,List.getElem?_take,if_pos (by omega)]
  simp
theorem mt_infoS:∃i,Tryz.prog.info? 26=some i∧i.zero=some (.slice none 0 0)∧i.size=1∧i.bytes=24:=by
 have h:(Tryz.prog.info? 26).map (fun i=> (i.zero,i.size,i.bytes))=some (some (.slice none 0 0),1,24):=by kernel_rfl
 obtain ⟨i,hi,hz⟩:=Option.map_eq_some_iff.1 h
 simp only [Prod.mk.injEq]at hz
 exact ⟨i,hi,hz.1,hz.2.1,hz.2.2⟩
theorem run_build_sls1 (W:World) (a:Option Addr) (n c:Nat):(Instr.buildSlice 69 1 #[(0, .slice a n c)]).run Tryz.prog W= .ok (.slice (some ⟨W.heap.size,0,none⟩) 1 1) (W.alloc (.cells #[.slice a n c] 26)):=by
 obtain ⟨i,hi,hz,hsz,_⟩:=mt_infoS
 refine run_buildSlice (P:=Tryz.prog) W 69 26 1 #[(0, .slice a n c)] #[.slice a n c] i _ Tryz.underlying69 hi hz (by rw [hsz];decide) (by rw [hsz];decide) ?_
 rw [hsz]
 rw [show Array.range (1*1)=#[0]from by decide]
 simp [Instr.fill,Value.cells]
theorem append_sls {w:World} {ops:Array Oper} {rest:List Oper} {o:Oper} {a:Act} {Q:Exit→Act→World→Prop} (hg:o.guard=none) (s x:Operand)
  (ho:o.op= .call {callee:= .builtin .append,args:=#[s,x],argTypes:=#[69,69]}) (B:Nat) (v:Value) (P:List Pc) (hs:a.eval s=v) (hown:OwnSls w B v P)
  (q:Nat) (p:Pc) (hx:a.eval x= .slice (some ⟨q,0,none⟩) 1 1) (hcell:w.cell? ⟨q,0,none⟩=some p.enc) (hp:ValsAt w p.at_ p.row.length p.cap p.row) (hfar:∀b o,p.at_=some ⟨b,o,none⟩→b < w.heap.size∧v.ownBlock≠some b) (hb:P.length≤1000000000) (hB:B≤w.heap.size)
  (h:∀v' w',Hid (OwnSls w' B v' (P++[p]))→Hid (Kept w w' (fun k=> B≤k∧v.ownBlock=some k))→wpList Tryz.prog ops Q rest (a.put o.dst v') w'):wpList Tryz.prog ops Q (o::rest) a w:=by
 obtain ⟨i,hi,hz,hsz,hby⟩:=mt_infoS
 have hnews:∀j u,[p.enc][j]? =some u→w.cell? ((⟨q,0,none⟩:Addr).add j)=some u:=by
  intro j u hj
  cases j with
  | zero=>
   rw [Addr.add_mid,←Option.some.inj hj]
   exact hcell
  | succ j=> cases hj
 obtain ⟨v',w',hr,h2,h3,h4,h5⟩:=run_append_own_at (P:=Tryz.prog) w B 69 o.type 26 i (.slice none 0 0) 1 24 Tryz.underlying69 hi hz hsz hby rfl (by decide) v P.length (P.map Pc.enc) hown.row ⟨q,0,none⟩ 1 1 [p.enc]
  rfl hnews (fun v hv=> by rw [List.mem_singleton.1 hv];rfl) (by unfold maxLen;omega) (by omega) hB
 refine wpList_wanted (by simp [Region.wanted,hg]) fun K hK=> ?_
 unfold Oper.wp execOp
 simp only [ho,resolve,invoke,builtin,Sem.run_bind,Sem.run_pure,Result.andThen_ok,List.map_toArray,List.map_cons,List.map_nil,hs,hx,hr]
 have hk:Kept w w' (fun k=> B≤k∧v.ownBlock=some k):=by
  refine ⟨h3.os,h3.tape,h3.output,h3.size,fun k hk hn=> h3.block k hk (fun e=> hn ?_)⟩
  obtain ⟨_,⟨rfl,_⟩ | ⟨g,cap,cur,rfl,hg,_⟩⟩:=hown.row
  ·cases e
  ·have e':g=k:=by simpa [Value.ownBlock] using e.symm
   subst e'
   exact ⟨hg,rfl⟩
 have each:∀r∈P++[p],ValsAt w r.at_ r.row.length r.cap r.row∧∀b o,r.at_=some ⟨b,o,none⟩→b < w.heap.size∧v.ownBlock≠some b:=fun r hr=> by
  rcases List.mem_append.1 hr with hr | hr
  ·exact ⟨hown.ins r hr,hown.far r hr⟩
  ·rw [List.mem_singleton.1 hr]
   exact ⟨hp,hfar⟩
 refine hK _ _ (h v' w' (Lib.hid ⟨?_,fun r hr=> ?_,fun r hr b o e=> ?_⟩) hk)
 ·rw [List.length_append,List.map_append]
  exact h2
 ·exact (each r hr).1.kept hk (fun b o e _ hb=> ((each r hr).2 b o e).2 hb.2)
 ·obtain ⟨f1,f2⟩:=(each r hr).2 b o e
  refine ⟨Nat.lt_of_lt_of_le f1 h3.size,fun e2=> ?_⟩
  rcases h5 with h5 | h5
  ·rw [h5]at e2
   exact f2 e2
  ·rw [h5]at e2
   have:=Option.some.inj e2
   omega
theorem OwnSls.lt {w:World} {B:Nat} {v:Value} {Q:List Pc} (h:OwnSls w B v Q) {k:Nat} (hk:v.ownBlock=some k):k < w.heap.size:=by
 obtain ⟨_,⟨rfl,_⟩ | ⟨g,cap,cur,rfl,hg,hh,_⟩⟩:=h.row
 ·cases hk
 ·have e':g=k:=by simpa [Value.ownBlock] using hk
  subst e'
  exact (Array.getElem?_eq_some_iff.1 hh).1
theorem own_far {w wn:World} {B B2:Nat} {v:Value} {Q:List Pc} (h:OwnSls w B v Q) {A:Option Addr} {n c:Nat} {L:List V} (o:OwnVals wn B2 (.slice A n c) L) (hs:w.heap.size≤B2) {m:Nat} (hm:wn.heap.size≤m):∀b off,A=some ⟨b,off,none⟩→b < m∧v.ownBlock≠some b:=by
 intro b off e
 obtain ⟨A',c',e1,_,_,h2,_⟩:=o.vals
 simp only [Value.slice.injEq]at e1
 obtain ⟨rfl,_,_⟩:=e1
 obtain ⟨g,e2,hg,hg2⟩:=h2 _ e
 simp only [Addr.mk.injEq]at e2
 obtain ⟨rfl,_,_⟩:=e2
 refine ⟨by omega,fun e3=> ?_⟩
 have:=h.lt e3
 omega
theorem step_callN {w:World} {ops:Array Oper} {o:Oper} {a:Act} {K:Act→World→Prop} {Q:Exit→Act→World→Prop} {E:Prop} (hg:o.guard=none) (f:FuncId) (args:Array Value) (hrun:(execOp a.eval o).run Tryz.prog w= .ok (.enter f args) w) {R:Ending→World→Prop}
  (hc:Calls Tryz.prog f args w R) (h:∀e w',R e w'→∃v,e= .returned v∧K (a.put o.dst v) w'):if Region.wanted o (yielded ops a.tmps)=true then Oper.wp Tryz.prog o a w K Q else E:=by
 rw [if_pos (by simp [Region.wanted,hg])]
 exact js_enterP f args hrun hc h
end Go.Proofs.YtgmangikcfakgaaGreatDoor
