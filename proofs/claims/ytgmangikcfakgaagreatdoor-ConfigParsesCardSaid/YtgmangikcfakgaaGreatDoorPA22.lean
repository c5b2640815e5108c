import Derived.Test.YtgmangikcfakgaaGreatDoorPA6
import Derived.Test.YtgmangikcfakgaaGreatDoorPA20
import Derived.Test.YtgmangikcfakgaaGreatDoorPA21
set_option maxRecDepth 100000
set_option maxHeartbeats 40000000
namespace Go.Proofs.YtgmangikcfakgaaGreatDoor
open Go Jt
namespace Js
theorem qbk:∀s:List UInt8,(skip s).length≤s.length
 | []=> Nat.le_refl _
 | a::r=> by
  rw [skip];split
  ·exact Nat.le_trans (qbk r) (Nat.le_succ _)
  ·exact Nat.le_refl _
theorem Short.one {M:Nat} {v:V} (h1:v.key.length≤M) (h2:v.text.length≤M):Short M [v]:=fun x hx=> by
 rw [List.mem_singleton.1 hx]
 exact ⟨h1,h2⟩
theorem Short.cons {M:Nat} {v:V} {l:List V} (h1:v.key.length≤M) (h2:v.text.length≤M) (h:Short M l):Short M (v::l):=fun x hx=> by
 rcases List.mem_cons.1 hx with rfl | hx
 ·exact ⟨h1,h2⟩
 ·exact h x hx
theorem Short.app {M:Nat} {l k:List V} (h1:Short M l) (h2:Short M k):Short M (l++k):=fun x hx=> by
 rcases List.mem_append.1 hx with hx | hx
 ·exact h1 x hx
 ·exact h2 x hx
theorem qhi {w s:List UInt8} {v:V} {n:Nat} {l:List V} {r:List UInt8} {M:Nat} (hv:Short M [v]) (h:wordF w s v= .ok n l r):Short M l:=by
 obtain ⟨_,rfl⟩:=qey h
 exact hv
theorem qi6 {K:List UInt8→Res} {kind:Int} {key:List UInt8} {c:UInt8} {s:List UInt8} {n:Nat} {l:List V} {r:List UInt8} {M:Nat} (hk:key.length≤M) (hK:∀n l r,K s= .ok n l r→Short M l) (h:groupF K kind key c s= .ok n l r):Short M l:=by
 have hb:∀ {n:Nat} {l:List V} {r:List UInt8},((K s).bind fun n l r=> .ok 1 (⟨kind,key,[],n⟩::l) r)= .ok n l r→Short M l:=fun h=> by
  obtain ⟨n1,l1,r1,e1,e2⟩:=bind_some h
  obtain ⟨_,rfl,_⟩:=qaz e2
  exact .cons hk (Nat.zero_le _) (hK _ _ _ e1)
 unfold groupF at h
 split at h
 ·exact hb h
 ·split at h
  ·obtain ⟨_,rfl,_⟩:=qaz h
   exact .one hk (Nat.zero_le _)
  ·exact hb h
theorem qhu {K:Bool→List UInt8→Res} {key:List UInt8} {d c:Nat} {s:List UInt8} {n:Nat} {l:List V} {r:List UInt8} {N:Nat} (hk:key.length≤4*N) (hs:s.length≤N) (hK:∀o s n l r,s.length≤N→K o s= .ok n l r→Short (4*N) l) (h:valW K key d c s= .ok n l r):Short (4*N) l:=by
 have hsk:=qbk s
 unfold valW at h
 split at h
 ·cases h
 next a u hau=>
  rw [hau,List.length_cons]at hsk
  split at h
  ·cases h
  split at h
  ·cases h
  split at h
  ·exact qhi (.one hk (Nat.zero_le _)) h
  split at h
  ·exact qhi (.one hk (Nat.zero_le _)) h
  split at h
  ·exact qhi (.one hk (Nat.zero_le _)) h
  split at h
  ·unfold stringF at h
   split at h
   next p hp=>
    obtain ⟨_,rfl,_⟩:=qaz h
    have:=qkb (s:=a::u) (x:=p.1) (k:=p.2) hp
    rw [List.length_cons]at this
    exact .one hk (by show p.1.length≤_;omega)
   ·cases h
  split at h
  ·exact qi6 hk (fun n l r e=> hK _ _ _ _ _ (by omega) e) h
  split at h
  ·exact qi6 hk (fun n l r e=> hK _ _ _ _ _ (by omega) e) h
  ·unfold numberF at h
   split at h
   ·cases h
   ·obtain ⟨_,rfl,_⟩:=qaz h
    refine .one hk ?_
    show ((a::u).take _).length≤_
    rw [List.length_take,List.length_cons];omega
theorem qu2 (N:Nat):∀(g:Nat) (o:Bool) (d c:Nat) (ks:List (List UInt8)) (s:List UInt8) (n:Nat) (l:List V) (r:List UInt8),s.length≤N→kids g o d c ks s= .ok n l r→Short (4*N) l:=by
 intro g
 induction g with
 | zero=>
  intro o d c ks s n l r _ h;cases h
 | succ g ih=>
  intro o d c ks s n l r hs h;rw [qc3]at h
  obtain ⟨n1,l1,r1,e1,e2⟩:=bind_some h
  have h1:=qdh e1
  have hl1:Short (4*N) l1:=by
   unfold oneF at e1;split at e1
   ·unfold nameF at e1
    split at e1
    ·cases e1
    next p hp=>
     split at e1
     ·cases e1
     ·have hsz:=qkb (s:=skip s) (x:=p.1) (k:=p.2) hp
      have hsk:=qbk s
      split at e1
      ·cases e1
      next a u hau=>
       split at e1
       ·have h3:=qbk ((skip s).drop p.2)
        rw [hau,List.length_cons,List.length_drop]at h3
        exact qhu (by omega) (by omega) (fun o s n l r hs e=> ih _ _ _ _ _ _ _ _ hs e) e1
       ·cases e1
   ·exact qhu (Nat.zero_le _) hs (fun o s n l r hs e=> ih _ _ _ _ _ _ _ _ hs e) e1
  have hsk:=qbk r1
  unfold nextF at e2;split at e2
  ·cases e2
  next a u hau=>
   rw [hau,List.length_cons]at hsk
   split at e2
   ·obtain ⟨_,rfl,_⟩:=qaz e2
    exact hl1
   ·split at e2
    ·obtain ⟨n2,l2,r2,e3,e4⟩:=bind_some e2
     obtain ⟨_,rfl,_⟩:=qaz e4
     exact hl1.app (ih _ _ _ _ _ _ _ _ (by omega) e3)
    ·cases e2
theorem qd4 {s:List UInt8} {n:Nat} {l:List V} {r:List UInt8} (h:parseF s= .ok n l r):Short (4*s.length) l:=by
 unfold parseF valF at h
 obtain ⟨n1,l1,r1,e1,e2⟩:=bind_some h
 split at e2
 ·obtain ⟨_,rfl,_⟩:=qaz e2
  exact qhu (Nat.zero_le _) (Nat.le_refl _) (fun o s n l r hs e=> qu2 _ _ _ _ _ _ _ _ _ _ hs e) e1
 ·cases e2
end Js
end Go.Proofs.YtgmangikcfakgaaGreatDoor
namespace Go.Proofs.YtgmangikcfakgaaGreatDoor
open Go.RowKit Sh Jt Js Jo
namespace Jo
theorem qrb:∀(f d:Nat) (o:Bool) (v:V) (l:List V) (t:List UInt8),l.length+1≤f→One d o v l t→∀x∈sortF f (v::l),x∈v::l:=by
 intro f
 induction f with
 | zero=> intro d o v l t h;omega
 | succ f ih=>
  intro d o v l t hf h x hx;obtain ⟨s1,_,_,_⟩:=qee (f:=f) h (by omega)
  rw [s1]at hx
  rcases List.mem_cons.1 hx with rfl | hx
  ·exact List.mem_cons_self
  ·obtain ⟨q,hq,hxq⟩:=List.mem_flatten.1 hx
   obtain ⟨p,hp,rfl⟩:=List.mem_map.1 hq
   have hp2:=(qdg v l).mem_iff.1 hp
   obtain ⟨v2,l2,t2,rfl,o2,hle⟩:=qe5 h p hp2
   have:=ih (d+1) (isObj v) v2 l2 t2 (by rw [List.length_cons]at hle;omega) o2 x hxq
   exact List.mem_cons_of_mem _ (((qc9 (qju h)).2 _ hp2).2 x this)
theorem qmt {k:Nat} {L:List V} (hr:rightPF L=true) (h:Short k L):Short k (srt L):=by
 obtain ⟨t,ht⟩:=(qa4 L).1 hr
 obtain ⟨v,r,t1,rfl,h1,_⟩:=row_one' ht
 exact fun x hx=> h x (qrb _ 0 false v r t1 (Nat.le_refl _) h1 x hx)
theorem qqz {k:Nat} {L:List V} (h:Short k L):Short k (sortA L):=by
 unfold sortA
 split
 next hr=> exact qmt hr h
 next=> exact fun v hv=> by cases hv
theorem qrg {k:Nat} {P:List (List V)} (h:∀p∈P,Short k p):Short k (listF P):=by
 intro v hv
 rcases List.mem_cons.1 hv with rfl | hv
 ·exact ⟨Nat.zero_le _,Nat.zero_le _⟩
 ·obtain ⟨q,hq,hx⟩:=List.mem_flatten.1 hv
  exact h q hq v hx
theorem qfy {P:List (List V)} {k:Nat} (h:∀p∈P,Short k p):Short k (listA P):=by
 unfold listA fineF
 split
 ·split
  ·exact qrg h
  ·exact fun v hv=> by cases hv
 ·exact fun v hv=> by cases hv
theorem qb4 {k:Nat} {L:List V} (h:Short k L) (z:Int):Short k (cutA L z):=by
 unfold cutA
 split
 ·exact qcm (qcf (qcc h _) _) (Nat.zero_le _)
 ·exact fun v hv=> by cases hv
theorem qtj {k:Nat} {L:List V} (h:Short k L):(textOf L).length≤k:=by
 match L,h with
 | [],_=> exact Nat.zero_le _
 | v::r,h=> exact (h v List.mem_cons_self).2
theorem qk0 {k:Nat} (hk:100≤k) {ids:List (List UInt8)} (hd:∀d∈ids,d.length=32):Short k (rootV ids):=by
 intro v hv
 unfold rootV at hv
 rcases List.mem_cons.1 hv with rfl | hv
 ·exact ⟨Nat.zero_le _,Nat.zero_le _⟩
 rcases List.mem_cons.1 hv with rfl | hv
 ·exact ⟨Nat.le_trans (show typeK.length≤100 by decide) hk,Nat.le_trans (show layersK.length≤100 by decide) hk⟩
 rcases List.mem_cons.1 hv with rfl | hv
 ·exact ⟨Nat.le_trans (show diffK.length≤100 by decide) hk,Nat.zero_le _⟩
 obtain ⟨q,hq,hx⟩:=List.mem_flatten.1 hv
 obtain ⟨d,hm,rfl⟩:=List.mem_map.1 hq
 have ht:=Dg.qf5 d
 have h32:=hd d hm
 rw [List.mem_singleton.1 hx]
 refine ⟨Nat.zero_le _, ?_⟩
 show (Dg.text d).length≤k
 omega
theorem qb3 {k:Nat} {v:V} (h1:v.key.length≤k) (h2:v.text.length≤k):Short k [v]:=by
 intro x hx
 rw [List.mem_singleton.1 hx]
 exact ⟨h1,h2⟩
theorem qha {k:Nat} (hk:100≤k) {h:Hist} (hw:h.who.length≤k) (hr:Short k h.rest):Short k (rowH h):=by
 have h1:Short k (if h.who=[] then h.rest else setA h.rest byK [⟨4,[],h.who,0⟩]):=by
  split
  ·exact hr
  ·exact qcg hr (qb3 (Nat.zero_le _) hw) (Nat.le_trans (show byK.length≤100 by decide) hk)
 unfold rowH
 dsimp only
 split
 ·exact qcg h1 (qb3 (Nat.zero_le _) (Nat.zero_le _)) (Nat.le_trans (show emptyK.length≤100 by decide) hk)
 ·exact h1
theorem qrv {k:Nat} (hk:100≤k) {c:Cfg} (hd:DigC c) (h1:Short k c.rest) (h2:∀h∈c.hist,h.who.length≤k∧Short k h.rest):Short k (bodyC c):=by
 have hX:Short k (setA c.rest rootK (rootV c.ids)):=qcg h1 (qk0 hk hd) (Nat.le_trans (show rootK.length≤100 by decide) hk)
 unfold bodyC
 dsimp only
 split
 ·exact hX
 ·refine qcg hX (qfy fun p hp=> ?_) (Nat.le_trans (show histK.length≤100 by decide) hk)
  obtain ⟨h,hm,rfl⟩:=List.mem_map.1 hp
  exact qha hk (h2 h hm).1 (h2 h hm).2
theorem qlg {k:Nat} (hk:100≤k) {c:Cfg} (hd:DigC c) (h1:Short k c.rest) (h2:∀h∈c.hist,h.who.length≤k∧Short k h.rest):Short k (rowC c):=by
 unfold rowC
 split
 ·exact qqz (qrv hk hd h1 h2)
 ·exact fun v hv=> by cases hv
theorem qyh (c:Cfg):(rowC c).length≤5000:=by
 rcases qiv c with h | ⟨_,_,_,h⟩
 ·rw [h];exact Nat.zero_le _
 ·exact qbc h
structure PrintsC (c:Cfg) (t:List UInt8):Prop where
 row:Js.Row (rowC c) t
 back:parseC t= .ok c
 len:t.length≤1000000000
 short:∀k l r,parseF t= .ok k l r→Short 1000000000 l
theorem qqd {c:Cfg} (hne:rowC c≠[]) (hd:DigC c) (h1:Short 12000 c.rest) (h2:∀h∈c.hist,h.who.length≤12000∧Short 12000 h.rest):∃t,PrintsC c t:=by
 rcases qiv c with e | ⟨_,_,_,hr⟩
 ·exact absurd e hne
 obtain ⟨t,ht⟩:=(qa4 _).1 hr
 have hs:=qlg (by decide) hd h1 h2
 have hl:=qol ht.2 hs
 have hf:=qyh c
 have hp:=qgy ht
 refine ⟨t,ht, ?_, ?_,fun k l r h=> ?_⟩
 ·unfold parseC
  rw [hp];exact qys hne hd
 ·have h6:(rowC c).length*(12*12000+40)≤5000*(12*12000+40):=Nat.mul_le_mul_right _ hf
  omega
 ·rw [hp]at h
  obtain ⟨_,rfl,_⟩:=qaz h
  exact qar hs (by decide)
def rightC (c:Cfg):Bool:=decide (0 < (rowC c).length)
theorem qvr {c:Cfg} (h:rowC c=[]):rightC c=false:=by unfold rightC;rw [h];rfl
structure FitH (h:Hist):Prop where
 who:h.who.length≤1048576
 rest:Short 1048576 h.rest
 few:h.rest.length≤250000
structure FitC (c:Cfg):Prop where
 rest:Short 1048576 c.rest
 few:c.rest.length≤250000
 hist:∀h∈c.hist,FitH h
theorem qmc {α:Type} {f:List V→Option α}:∀ {Q:List (List V)} {ls:List α},allO f Q=some ls→∀a∈ls,∃p∈Q,f p=some a
 | [],ls,h=> by
  obtain rfl:=Option.some.inj h
  exact fun a ha=> by cases ha
 | p::Q,ls,h=> by
  rw [allO]at h
  obtain ⟨d,hd,h⟩:=Option.bind_eq_some_iff.1 h
  obtain ⟨r,hr,h⟩:=Option.bind_eq_some_iff.1 h
  obtain rfl:=Option.some.inj h
  intro a ha;rcases List.mem_cons.1 ha with rfl | ha
  ·exact ⟨p,List.mem_cons_self,hd⟩
  ·obtain ⟨q,hq,e⟩:=qmc hr a ha
   exact ⟨q,List.mem_cons_of_mem _ hq,e⟩
theorem qi5 {k:Nat} {L:List V} (a b:List UInt8) (ho:isO L=true) (h:Short k L):Short k (srt (dropA (dropA L a) b)):=by
 obtain ⟨P,hP⟩:=qbn ho
 exact qmt (ObjIs.but (ObjIs.but hP a) b).right (qbj (qbj h))
theorem qht (L:List V) (a b:List UInt8) (ho:isO L=true):(srt (dropA (dropA L a) b)).length≤L.length:=by
 obtain ⟨P,hP⟩:=qbn ho
 have hB:=ObjIs.but hP a
 have:=qc7 hP a
 have:=qc7 hB b
 rw [(qcn (ObjIs.but hB b).right).2.2]
 omega
theorem qi9 {k:Nat} {p:List V} {h:Hist} (hs:Short k p) (he:entryF p=some h):h.who.length≤k∧Short k h.rest∧h.rest.length≤p.length:=by
 unfold entryF at he
 split at he
 next hc=>
  obtain rfl:=Option.some.inj he
  exact ⟨qtj (qb4 hs _),qi5 _ _ hc.1 hs,qht _ _ _ hc.1⟩
 next=> cases he
theorem qk4:∀(n:Nat) (l:List V) (p:List V),p∈partsP n l→p.length≤l.length∧∀z∈p,z∈l
 | 0,l,p,h=> by cases h
 | n+1,l,p,h=> by
  rw [partsP]at h
  split at h
  ·cases h
  next m hm=>
   rcases List.mem_cons.1 h with rfl | h
   ·exact ⟨by rw [List.length_take];omega,fun z hz=> List.mem_of_mem_take hz⟩
   ·obtain ⟨a,b⟩:=qk4 n _ p h
    rw [List.length_drop]at a
    exact ⟨by omega,fun z hz=> List.mem_of_mem_drop (b z hz)⟩
theorem qlc {L p:List V} (h:p∈partsL L):p.length≤L.length∧∀z∈p,z∈L:=by
 obtain ⟨a,b⟩:=qk4 _ _ p h
 rw [List.length_drop]at a
 exact ⟨by omega,fun z hz=> List.mem_of_mem_drop (b z hz)⟩
structure ParsedC (y:Cfg):Prop where
 ok:okC y=true
 row:rowC y≠[]
 dig:DigC y
 fit:FitC y
 prints:∃t,PrintsC y t
theorem qyr {bs:List UInt8} {y:Cfg} (hl:bs.length≤3000) (h:parseC bs= .ok y):ParsedC y:=by
 unfold parseC at h
 cases hq:parseF bs with
 | err c=> rw [hq]at h;cases h
 | ok k L r=>
  rw [hq]at h
  have h:confF L= .ok y:=h
  obtain ⟨_,_,t,ht⟩:=qd7 hq
  have hr:=(qa4 L).2 ⟨t,ht⟩
  have hs:Short 12000 L:=qar (qd4 hq) (by omega)
  obtain ⟨hok,hdg,hbr,_⟩:=qo4 h
  have hL5:=qbc hr
  have hne:rowC y≠[]:=by
   rcases qiv y with e | ⟨_,_,_,h4⟩
   ·unfold rowC sortA at e
    rw [if_pos hok,if_pos hbr]at e
    have:=(qcn hbr).2.1
    rw [e]at this
    exact absurd (qav this) (Nat.lt_irrefl _)
   ·exact fun e=> by rw [e]at h4;exact absurd (qav h4) (Nat.lt_irrefl _)
  have key:Short 12000 y.rest∧y.rest.length≤5000∧∀h∈y.hist,h.who.length≤12000∧Short 12000 h.rest∧h.rest.length≤5000:=by
   unfold confF at h;split at h
   next d hs2 h1 h2=>
    split at h
    ·cases h
    ·split at h
     ·cases h
     ·obtain rfl:=OutC.ok.inj h
      have nR:ofKey L rootK≠[]:=fun e=> by
       have:=(qj4 h1).2
       rw [e]at this
       exact absurd this (by rw [List.length_nil];omega)
      have ho:=qcv nR
      refine ⟨qi5 _ _ ho hs,Nat.le_trans (qht _ _ _ ho) hL5,fun x hx=> ?_⟩
      unfold histF at h2;split at h2
      ·obtain rfl:=Option.some.inj h2
       cases hx
      ·unfold listO at h2
       split at h2
       next h5=>
        obtain ⟨p,hp2,he⟩:=qmc h2 x hx
        have hsk:Short 12000 (ofKey L histK):=qb4 hs _
        have hlk:(ofKey L histK).length≤L.length:=qc6 _ _
        obtain ⟨hpl,hin⟩:=qlc hp2
        have hps:Short 12000 p:=fun z hz=> hsk z (hin z hz)
        obtain ⟨b1,b2,b3⟩:=qi9 hps he
        exact ⟨b1,b2,by omega⟩
       next=> cases h2
   next=> cases h
  obtain ⟨k1,k2,k3⟩:=key
  refine ⟨hok,hne,hdg,⟨qar k1 (by decide),by omega,fun x hx=> ?_⟩,qqd hne hdg k1 fun x hx=> ⟨(k3 x hx).1,(k3 x hx).2.1⟩⟩
  obtain ⟨a,b,c⟩:=k3 x hx
  exact ⟨by omega,qar b (by decide),by omega⟩
end Jo
structure OwnSls (w:World) (B:Nat) (v:Value) (Q:List Pc):Prop where
 row:w.ownsRow B 26 1 v Q.length (Q.map Pc.enc)
 ins:∀p∈Q,ValsAt w p.at_ p.row.length p.cap p.row
 far:∀p∈Q,∀b o,p.at_=some ⟨b,o,none⟩→b < w.heap.size∧v.ownBlock≠some b
theorem OwnSls.nil (w:World) (B:Nat):OwnSls w B (.slice none 0 0) []:=⟨⟨rfl, .inl ⟨rfl,rfl⟩⟩,fun p h=> (by cases h),fun p h=> (by cases h)⟩
theorem OwnSls.below {w w':World} {B:Nat} {v:Value} {Q:List Pc} (h:OwnSls w B v Q) (hb:Below w.heap.size w w'):OwnSls w' B v Q:=by
 refine ⟨?_,fun p hp=> (h.ins p hp).below hb,fun p hp b o e=> ⟨Nat.lt_of_lt_of_le (h.far p hp b o e).1 hb.size,(h.far p hp b o e).2⟩⟩
 obtain ⟨hl,h1 | ⟨g,cap,cur,rfl,hg,hh,hn,hc,hs,ht⟩⟩:=h.row
 ·exact ⟨hl, .inl h1⟩
 ·exact ⟨hl, .inr ⟨g,cap,cur,rfl,hg,(hb.block g (Array.getElem?_eq_some_iff.1 hh).1).trans hh,hn,hc,hs,ht⟩⟩
theorem OwnSls.sls {w:World} {B:Nat} {v:Value} {Q:List Pc} (h:OwnSls w B v Q):∃(A:Option Addr) (c:Nat),v= .slice A Q.length c∧SlsAt w A Q.length c Q:=by
 obtain ⟨hl,⟨rfl,h0⟩ | ⟨g,cap,cur,rfl,hg,hh,hn,hc,hs,ht⟩⟩:=h.row
 ·have:Q=[]:=List.eq_nil_of_length_eq_zero h0
  subst this;exact ⟨none,0,rfl,rfl,Nat.le_refl _,(fun h=> absurd h (by decide)),fun p h=> (by cases h)⟩
 ·have hlt:=(Array.getElem?_eq_some_iff.1 hh).1
  refine ⟨some ⟨g,0,none⟩,cap,rfl,rfl,hn,fun _=> ⟨g,0,rfl,hlt,fun j u hj=> ?_⟩,h.ins⟩
  have hjl:=(List.getElem?_eq_some_iff.1 hj).1
  rw [List.length_map]at hjl
  rw [cell_of_row _ _ _ _ _ _ hh,Nat.zero_add,←hj,←ht,List.getElem?_take,if_pos (by omega)];simp
theorem qqh:∃i,Tryz.prog.info? 26=some i∧i.zero=some (.slice none 0 0)∧i.size=1∧i.bytes=24:=by
 have h:(Tryz.prog.info? 26).map (fun i=> (i.zero,i.size,i.bytes))=some (some (.slice none 0 0),1,24):=by kernel_rfl
 obtain ⟨i,hi,hz⟩:=Option.map_eq_some_iff.1 h
 simp only [Prod.mk.injEq]at hz
 exact ⟨i,hi,hz.1,hz.2.1,hz.2.2⟩
theorem qdx (W:World) (a:Option Addr) (n c:Nat):(Instr.buildSlice 69 1 #[(0, .slice a n c)]).run Tryz.prog W= .ok (.slice (some ⟨W.heap.size,0,none⟩) 1 1) (W.alloc (.cells #[.slice a n c] 26)):=by
 obtain ⟨i,hi,hz,hsz,_⟩:=qqh
 refine run_buildSlice (P:=Tryz.prog) W 69 26 1 #[(0, .slice a n c)] #[.slice a n c] i _ Tryz.underlying69 hi hz (by rw [hsz];decide) (by rw [hsz];decide) ?_
 rw [hsz]
 rw [show Array.range (1*1)=#[0]from by decide]
 simp [Instr.fill,Value.cells]
theorem qky {w:World} {ops:Array Oper} {rest:List Oper} {o:Oper} {a:Act} {Q:Exit→Act→World→Prop} (hg:o.guard=none) (s x:Operand)
  (ho:o.op= .call {callee:= .builtin .append,args:=#[s,x],argTypes:=#[69,69]}) (B:Nat) (v:Value) (P:List Pc) (hs:a.eval s=v) (hown:OwnSls w B v P)
  (q:Nat) (p:Pc) (hx:a.eval x= .slice (some ⟨q,0,none⟩) 1 1) (hcell:w.cell? ⟨q,0,none⟩=some p.enc) (hp:ValsAt w p.at_ p.row.length p.cap p.row) (hfar:∀b o,p.at_=some ⟨b,o,none⟩→b < w.heap.size∧v.ownBlock≠some b) (hb:P.length≤1000000000) (hB:B≤w.heap.size)
  (h:∀v' w',Hid (OwnSls w' B v' (P++[p]))→Hid (Kept w w' (fun k=> B≤k∧v.ownBlock=some k))→wpList Tryz.prog ops Q rest (a.put o.dst v') w'):wpList Tryz.prog ops Q (o::rest) a w:=by
 obtain ⟨i,hi,hz,hsz,hby⟩:=qqh
 have hnews:∀j u,[p.enc][j]? =some u→w.cell? ((⟨q,0,none⟩:Addr).add j)=some u:=by
  intro j u hj;cases j with
  | zero=>
   rw [Addr.add_mid,←Option.some.inj hj];exact hcell
  | succ j=> cases hj
 obtain ⟨v',w',hr,h2,h3,h4,h5⟩:=run_append_own_at (P:=Tryz.prog) w B 69 o.type 26 i (.slice none 0 0) 1 24 Tryz.underlying69 hi hz hsz hby rfl (by decide) v P.length (P.map Pc.enc) hown.row ⟨q,0,none⟩ 1 1 [p.enc]
  rfl hnews (fun v hv=> by rw [List.mem_singleton.1 hv];rfl) (by unfold maxLen;omega) (by omega) hB
 refine qa5 (by simp [Region.wanted,hg]) fun K hK=> ?_
 unfold Oper.wp execOp
 simp only [ho,resolve,invoke,builtin,Sem.run_bind,Sem.run_pure,Result.andThen_ok,List.map_toArray,List.map_cons,List.map_nil,hs,hx,hr]
 have hk:Kept w w' (fun k=> B≤k∧v.ownBlock=some k):=by
  refine ⟨h3.os,h3.tape,h3.output,h3.size,fun k hk hn=> h3.block k hk (fun e=> hn ?_)⟩
  obtain ⟨_,⟨rfl,_⟩ | ⟨g,cap,cur,rfl,hg,_⟩⟩:=hown.row
  ·cases e
  ·have e':g=k:=by simpa [Value.ownBlock] using e.symm
   subst e'
   exact ⟨hg,rfl⟩
 have each:∀r∈P++[p],ValsAt w r.at_ r.row.length r.cap r.row∧∀b o,r.at_=some ⟨b,o,none⟩→b < w.heap.size∧v.ownBlock≠some b:=fun r hr=> by
  rcases List.mem_append.1 hr with hr | hr
  ·exact ⟨hown.ins r hr,hown.far r hr⟩
  ·rw [List.mem_singleton.1 hr]
   exact ⟨hp,hfar⟩
 refine hK _ _ (h v' w' (Qh ⟨?_,fun r hr=> ?_,fun r hr b o e=> ?_⟩) hk)
 ·rw [List.length_append,List.map_append]
  exact h2
 ·exact (each r hr).1.kept hk (fun b o e _ hb=> ((each r hr).2 b o e).2 hb.2)
 ·obtain ⟨f1,f2⟩:=(each r hr).2 b o e
  refine ⟨Nat.lt_of_lt_of_le f1 h3.size,fun e2=> ?_⟩
  rcases h5 with h5 | h5
  ·rw [h5]at e2
   exact f2 e2
  ·rw [h5]at e2
   have:=Option.some.inj e2
   omega
theorem OwnSls.lt {w:World} {B:Nat} {v:Value} {Q:List Pc} (h:OwnSls w B v Q) {k:Nat} (hk:v.ownBlock=some k):k < w.heap.size:=by
 obtain ⟨_,⟨rfl,_⟩ | ⟨g,cap,cur,rfl,hg,hh,_⟩⟩:=h.row
 ·cases hk
 ·have e':g=k:=by simpa [Value.ownBlock] using hk
  subst e'
  exact (Array.getElem?_eq_some_iff.1 hh).1
theorem q1h {w wn:World} {B B2:Nat} {v:Value} {Q:List Pc} (h:OwnSls w B v Q) {A:Option Addr} {n c:Nat} {L:List V} (o:OwnVals wn B2 (.slice A n c) L) (hs:w.heap.size≤B2) {m:Nat} (hm:wn.heap.size≤m):∀b off,A=some ⟨b,off,none⟩→b < m∧v.ownBlock≠some b:=by
 intro b off e
 obtain ⟨A',c',e1,_,_,h2,_⟩:=o.vals
 simp only [Value.slice.injEq]at e1
 obtain ⟨rfl,_,_⟩:=e1
 obtain ⟨g,e2,hg,hg2⟩:=h2 _ e
 simp only [Addr.mk.injEq]at e2
 obtain ⟨rfl,_,_⟩:=e2
 refine ⟨by omega,fun e3=> ?_⟩
 have:=h.lt e3
 omega
theorem qk1 {w:World} {ops:Array Oper} {o:Oper} {a:Act} {K:Act→World→Prop} {Q:Exit→Act→World→Prop} {E:Prop} (hg:o.guard=none) (f:FuncId) (args:Array Value) (hrun:(execOp a.eval o).run Tryz.prog w= .ok (.enter f args) w) {R:Ending→World→Prop}
  (hc:Calls Tryz.prog f args w R) (h:∀e w',R e w'→∃v,e= .returned v∧K (a.put o.dst v) w'):if Region.wanted o (yielded ops a.tmps)=true then Oper.wp Tryz.prog o a w K Q else E:=by
 rw [if_pos (by simp [Region.wanted,hg])]
 exact qd9 f args hrun hc h
end Go.Proofs.YtgmangikcfakgaaGreatDoor
