import Derived.Test.YtgmangikcfakgaaGreatDoorPA5
set_option maxRecDepth 100000
set_option maxHeartbeats 40000000
namespace Go.Proofs.YtgmangikcfakgaaGreatDoor
open Go
namespace Jo
open Jt Js
theorem qmy {d:Nat} {o:Bool} {ks:List (List UInt8)} {P:List (List V)} (key:List UInt8) (h:Parts d o ks P):∃ks2,Parts d o ks2 (butF key P):=by
 induction h with
 | nil=> exact ⟨[], .nil⟩
 | @cons v l t ks P h r ih=>
  obtain ⟨k2,h2⟩:=ih
  by_cases hk:keyOf (v::l)=key
  ·rw [qdu hk]
   exact ⟨k2,h2⟩
  ·rw [qfk hk]
   exact ⟨_, .cons h h2⟩
theorem qvx {d:Nat} {o:Bool} {ks:List (List UInt8)} {P:List (List V)} (h:Parts d o ks P):∃ks2,Parts d o ks2 (ordF (P.map srt)):=by
 obtain ⟨ks2,_,h2⟩:=Parts.perm (qa1 (P.map srt)) (qh1 h)
 exact ⟨ks2,h2⟩
theorem q03 {d:Nat} {key:List UInt8} {ks:List (List UInt8)} {P:List (List V)} {o:Bool} (hp:Parts (d+1) true ks P) (hn:(P.map keyOf).Nodup) (hd:d < 50) (ho:o=false→key=[]) (hk:validF key=true):∃t,One d o ⟨6,key,[],(P.length:Nat)⟩ P.flatten t:=by
 obtain ⟨t,ht⟩:=hp.rows
 refine ⟨t,⟨ho,hk, .inr (.inr (.inr ⟨.inr rfl,rfl,(show (0:Int)≤(P.length:Nat)by omega)⟩))⟩,hd,ks,ht,by rw [←hp.len],fun _=> ?_⟩
 rw [←qcw hp]
 exact hn
theorem qyy {d:Nat} {o:Bool} {v:V} {l:List V} {t:List UInt8} {P:List (List V)} (h:ObjIs (v::l) P) (h1:One d o v l t):∃ks,Parts (d+1) true ks P:=by
 have e:=h.eq
 obtain ⟨rfl,rfl⟩:=List.cons.inj e
 obtain ⟨ks,q1,q2,_⟩:=h1.kids
 obtain ⟨Q,hQ,hp,_⟩:=qcd _ _ _ q1
 have hl:Q.length=P.length:=by
  rw [hp.len];exact Int.ofNat.inj q2
 have:Q=P:=qd6 Q P (qb2 hp) h.ends hl hQ
 subst this
 exact ⟨ks,hp⟩
theorem qvi {L:List V} {P:List (List V)} (h:ObjIs L P) {key:List UInt8} (hk:ofKey L key=[]∨kindOf (ofKey L key)=4):validF (textOf (ofKey L key))=true:=by
 rcases hk with e | e
 ·rw [e]
  exact qaw
 ·have hm:memF L key 4=some (textOf (ofKey L key)):=by
   unfold memF tellF;rw [if_pos e]
  obtain ⟨q,hq,_,k4,ht⟩:=qoi h (by decide) hm
  obtain ⟨v,l,t,rfl,ho⟩:=qsp h hq
  rw [←ht];have hk:v.kind=4:=k4
  rcases ho.own.2.2 with h | h | h | h
  ·omega
  ·omega
  ·exact h.2.1
  ·omega
theorem q17 {L:List V} {key:List UInt8} (h:textOf (ofKey L key)≠[]):0 < (ofKey L key).length:=by
 cases e:ofKey L key with
 | nil=> rw [e]at h;exact absurd rfl h
 | cons v l=> exact Nat.succ_pos _
theorem qwl {v:V} {l:List V} {t:List UInt8} {h:Hist} (h1:One 2 false v l t) (hl:(v::l).length≤4998) (he:entryF (v::l)=some h):
  okH h=true∧rightPF (rowH h)=true∧(∃v2 l2 t2,rowH h=v2::l2∧One 2 false v2 l2 t2)∧(rowH h).length≤(v::l).length:=by
 unfold entryF at he
 split at he
 next hc=>
  obtain rfl:=Option.some.inj he
  obtain ⟨c1,c2,c3⟩:=hc
  obtain ⟨P,hP⟩:=qbn c1
  obtain ⟨ks,hp3⟩:=qyy hP h1
  have hB:=ObjIs.but hP byK
  have hC:=ObjIs.but hB emptyK
  have hY:=ObjIs.srt hC
  obtain ⟨s1,s2,s3⟩:=qcn hC.right
  obtain ⟨k1,hq1⟩:=qmy byK hp3
  obtain ⟨k2,hq2⟩:=qmy emptyK hq1
  obtain ⟨k3,hq3⟩:=qvx hq2
  have l1:=qc7 hP byK
  have l2:=qc7 hB emptyK
  have e2:ofKey (dropA (v::l) byK) emptyK=ofKey (v::l) emptyK:=by
   rw [ObjIs.key hB,ObjIs.key hP,qg3 qg1.symm]
  rw [e2]at l2
  have keys:∀k,k∉(butF emptyK (butF byK P)).map keyOf→k∉(ordF ((butF emptyK (butF byK P)).map srt)).map keyOf:=fun k hk hm=> hk (by
   have:=((qa1 ((butF emptyK (butF byK P)).map srt)).map keyOf).mem_iff.2 hm
   rw [qc8]at this
   exact this)
  have n1:=keys _ (qsg emptyK _ (qhd byK P))
  have n2:=keys _ (qhd emptyK (butF byK P))
  have hv:=qvi hP c2
  have hplain:=qgn hY n1 n2 s1
  have hw0:∀k,textOf (ofKey (v::l) k)≠[]→0 < (ofKey (v::l) k).length:=fun k=> q17
  have hk0:kindOf (ofKey (v::l) emptyK)=1→0 < (ofKey (v::l) emptyK).length:=fun e=> by
   cases e4:ofKey (v::l) emptyK with
   | nil=> rw [e4]at e;cases e
   | cons=> exact Nat.succ_pos _
  obtain ⟨h,hh⟩:∃h:Hist,h=⟨textOf (ofKey (v::l) byK),decide (kindOf (ofKey (v::l) emptyK)=1),srt (dropA (dropA (v::l) byK) emptyK)⟩:=⟨_,rfl⟩
  have q1:h.who=textOf (ofKey (v::l) byK):=by rw [hh]
  have q2:h.empty=decide (kindOf (ofKey (v::l) emptyK)=1):=by rw [hh]
  have q3:h.rest=srt (dropA (dropA (v::l) byK) emptyK):=by rw [hh]
  rw [←hh];rw [←q1]at hv
  have hw:=hw0 byK
  rw [←q1]at hw
  have hem:h.empty=true→0 < (ofKey (v::l) emptyK).length:=fun e=> hk0 (of_decide_eq_true (by rw [←q2];exact e))
  rw [←q3]at hplain hY s3
  generalize ordF ((butF emptyK (butF byK P)).map srt)=R at*;obtain ⟨X,hX⟩:∃X,X=if h.who=[] then h.rest else setA h.rest byK [⟨4,[],h.who,0⟩]:=⟨_,rfl⟩
  have hrow:rowH h=if h.empty=true then setA X emptyK [⟨1,[],[],0⟩] else X:=by rw [hX];rfl
  have hXo:ObjIs X (R++if h.who=[] then [] else [[⟨4,byK,h.who,0⟩]])∧X.length=h.rest.length+if h.who=[] then 0 else 1:=by
   by_cases hwn:h.who=[]
   ·rw [if_pos hwn]at hX
    rw [if_pos hwn,if_pos hwn,hX,List.append_nil];exact ⟨hY,rfl⟩
   ·rw [if_neg hwn]at hX
    rw [if_neg hwn,if_neg hwn,hX];have:=hw hwn
    exact ObjIs.add hY (key:=byK) (v:=⟨4,[],h.who,0⟩) (l:=[]) (qbf (qbp (by decide) (fun _=> rfl) qaw hv) (by decide)) (qbp (by decide) (fun h=> by cases h) qj1 hv) n1 (by show _+(0+1)≤_;omega)
  have hlw:(if h.who=[] then 0 else 1)≤(ofKey (v::l) byK).length:=by
   split
   ·exact Nat.zero_le _
   next hwn=> exact hw hwn
  have n3:emptyK∉(R++if h.who=[] then [] else [[(⟨4,byK,h.who,0⟩:V)]]).map keyOf:=by
   rw [List.map_append,List.mem_append];rintro (e | e)
   ·exact n2 e
   ·split at e
    ·cases e
    ·exact qg1 (List.mem_singleton.1 e).symm
  have own1:Own (⟨1,[],[],0⟩:V) false:=⟨fun _=> rfl,qaw, .inl ⟨.inr (.inl rfl),rfl,rfl⟩⟩
  have own2:Own (⟨1,emptyK,[],0⟩:V) true:=⟨(fun h=> (by cases h)),qf4, .inl ⟨.inr (.inl rfl),rfl,rfl⟩⟩
  have hH:ObjIs (rowH h) (R++partsH h)∧(rowH h).length≤(v::l).length:=by
   rw [hrow];unfold partsH;rw [←List.append_assoc];by_cases he:h.empty=true
   ·rw [if_pos he,if_pos he]
    have:=hem he
    obtain ⟨a1,a2⟩:=ObjIs.add hXo.1 (key:=emptyK) (v:=⟨1,[],[],0⟩) (l:=[]) (qbf (One.leaf own1 (by decide) (show (1:Int)≠6 by decide) rfl) (by decide)) (One.leaf own2 (by decide) (show (1:Int)≠6 by decide) rfl) n3 (by
     have:=hXo.2
     show _+(0+1)≤_
     omega)
    refine ⟨a1, ?_⟩
    rw [a2];have:=hXo.2
    show _+(0+1)≤_
    omega
   ·rw [if_neg he,if_neg he,List.append_nil]
    refine ⟨hXo.1, ?_⟩
    have:=hXo.2
    omega
  have hpp:∃ks,Parts 3 true ks (R++partsH h):=by
   refine ⟨_,qh8 hq3 (ks2:=(partsH h).map keyOf) ?_⟩
   unfold partsH;have z1:Parts 3 true ((if h.who=[] then [] else [[(⟨4,byK,h.who,0⟩:V)]]).map keyOf) (if h.who=[] then [] else [[⟨4,byK,h.who,0⟩]]):=by
    split
    ·exact .nil
    ·exact .cons (qbp (by decide) (fun h=> by cases h) qj1 hv) .nil
   have z2:Parts 3 true ((if h.empty=true then [[(⟨1,emptyK,[],0⟩:V)]] else []).map keyOf) (if h.empty=true then [[⟨1,emptyK,[],0⟩]] else []):=by
    split
    ·exact .cons (One.leaf own2 (by decide) (show (1:Int)≠6 by decide) rfl) .nil
    ·exact .nil
   rw [List.map_append];exact qh8 z1 z2
  obtain ⟨ks4,hp4⟩:=hpp
  obtain ⟨t4,o4⟩:=q03 (d:=2) (key:=[]) (o:=false) hp4 hH.1.nodup (by decide) (fun _=> rfl) qaw
  refine ⟨?_,hH.1.right,⟨_,_,t4,hH.1.eq,o4⟩,hH.2⟩
  unfold okH;rw [hplain,hv];rfl
 next=> cases he
theorem qqy {ks:List (List UInt8)} {Q:List (List V)} (hp:Parts 2 false ks Q):∀ {hs:List Hist},Q.flatten.length≤4998→allO entryF Q=some hs→
  (∀h∈hs,okH h=true∧rightPF (rowH h)=true)∧(∃ks2,Parts 2 false ks2 (hs.map rowH))∧(hs.map rowH).flatten.length≤Q.flatten.length∧hs.length=Q.length:=by
 induction hp with
 | nil=>
  intro hs _ h;obtain rfl:=Option.some.inj h
  exact ⟨fun d hd=> (by cases hd),⟨[], .nil⟩,Nat.le_refl _,rfl⟩
 | @cons v l t ks P h r ih=>
  intro hs hl ha;rw [List.flatten_cons,List.length_append]at hl
  rw [allO]at ha
  obtain ⟨d,hd,ha⟩:=Option.bind_eq_some_iff.1 ha
  obtain ⟨r2,hr2,ha⟩:=Option.bind_eq_some_iff.1 ha
  obtain rfl:=Option.some.inj ha
  obtain ⟨i1,⟨k2,i2⟩,i3,i4⟩:=ih (by omega) hr2
  obtain ⟨a,b,⟨v2,l2,t2,e,o⟩,c⟩:=qwl h (by omega) hd
  refine ⟨fun x hx=> ?_,⟨v2.key::k2, ?_⟩, ?_,by rw [List.length_cons,List.length_cons,i4]⟩
  ·rcases List.mem_cons.1 hx with rfl | hx
   ·exact ⟨a,b⟩
   ·exact i1 x hx
  ·rw [List.map_cons,e]
   exact .cons o i2
  ·rw [List.map_cons,List.flatten_cons,List.length_append,List.flatten_cons,List.length_append]
   omega
theorem q1z {Q:List (List V)}:∀ {ds:List (List UInt8)},allO digO Q=some ds→(∀d∈ds,d.length=32)∧ds.length=Q.length:=by
 induction Q with
 | nil=>
  intro ds h;obtain rfl:=Option.some.inj h
  exact ⟨fun d hd=> (by cases hd),rfl⟩
 | cons p Q ih=>
  intro ds ha;rw [allO]at ha
  obtain ⟨d,hd,ha⟩:=Option.bind_eq_some_iff.1 ha
  obtain ⟨r2,hr2,ha⟩:=Option.bind_eq_some_iff.1 ha
  obtain rfl:=Option.some.inj ha
  obtain ⟨i1,i2⟩:=ih hr2
  unfold digO at hd;obtain ⟨s,_,hs⟩:=Option.bind_eq_some_iff.1 hd
  refine ⟨fun x hx=> ?_,by rw [List.length_cons,List.length_cons,i2]⟩
  rcases List.mem_cons.1 hx with rfl | hx
  ·exact (Dg.qlf hs).2
  ·exact i1 x hx
theorem qg7 {v:V} {P:List (List V)} {d:Nat} {o:Bool} {ks:List (List UInt8)} (hp:Parts d o ks P) (hn:(ks.length:Int)=v.count):partsL (v::P.flatten)=P:=by
 have hr:=qds hp []
 rw [List.append_nil]at hr
 unfold partsL
 show partsP v.count.toNat P.flatten=P
 rw [←hn,Int.toNat_natCast]
 exact hr
theorem qjg {L:List V} {P:List (List V)} (h:ObjIs L P) {key:List UInt8} (hk:kindOf (ofKey L key)=5):∃q∈P,keyOf q=key∧ofKey L key=named [] q∧∃ks,Parts 2 false ks (partsL (ofKey L key))∧(ofKey L key).length=(partsL (ofKey L key)).flatten.length+1∧q.length=(ofKey L key).length:=by
 have hne:look P key≠[]:=fun e=> by
  rw [ObjIs.key h,e]at hk
  cases hk
 obtain ⟨q,hq,hkey,e⟩:=qnt hne
 obtain ⟨v,l,t,rfl,ho⟩:=qsp h hq
 have e2:ofKey L key= {v with key:=[]}::l:=by
  rw [ObjIs.key h,e];rfl
 rw [e2]at hk
 have h5:v.kind=5:=hk
 obtain ⟨ks,q1,q2,_⟩:=ho.kids
 rw [show isObj v=false from decide_eq_false (by omega)]at q1
 obtain ⟨Q,hQ,hp,_⟩:=qcd _ _ _ q1
 have hparts:partsL (ofKey L key)=Q:=by
  rw [e2,←hQ];exact qg7 hp q2
 refine ⟨_,hq,hkey,by rw [ObjIs.key h,e],ks,by rw [hparts];exact hp, ?_, ?_⟩
 ·rw [hparts,hQ,e2,List.length_cons]
 ·rw [e2]
  rfl
theorem q06 {p q x y:List V} (h:p≠q) (hp:p∈[x,y]) (hq:q∈[x,y]):x.length+y.length=p.length+q.length:=by
 simp only [List.mem_cons,List.not_mem_nil,or_false]at hp hq
 rcases hp with rfl | rfl <;> rcases hq with rfl | rfl
 ·exact absurd rfl h
 ·rfl
 ·omega
 ·exact absurd rfl h
theorem qj4 {L:List V} {ds:List (List UInt8)} (h:idsF L=some ds):(∀d∈ds,d.length=32)∧3+ds.length≤L.length:=by
 unfold idsF at h
 split at h
 next hc=>
  obtain ⟨c1,c2⟩:=hc
  obtain ⟨P,hP⟩:=qbn (qo9 (by decide) c2).1
  obtain ⟨p1,m1,k1,q1,_⟩:=qoi hP (by decide) c2
  unfold listO at h;split at h
  next h5=>
   obtain ⟨a1,a2⟩:=q1z h
   obtain ⟨p2,m2,k2,_,ks,hp,hl,hl2⟩:=qjg hP h5
   have hfew:(partsL (ofKey L diffK)).length≤(partsL (ofKey L diffK)).flatten.length:=by
    have:∀ {ks:List (List UInt8)} {Q:List (List V)},Parts 2 false ks Q→Q.length≤Q.flatten.length:=fun h=> by
     induction h with
     | nil=> exact Nat.le_refl _
     | cons _ _ ih=>
      rw [List.flatten_cons,List.length_append,List.length_cons,List.length_cons];omega
    exact this hp
   have hn:P.length=2:=by
    have e:=hP.eq
    rw [e]at c1
    exact Int.ofNat.inj c1
   have hne:p1≠p2:=fun e=> by
    rw [e,k2]at k1
    exact qw8 k1.symm
   have h1:0 < p1.length:=hP.ends.pos m1
   refine ⟨a1, ?_⟩
   match P,hn,m1,m2,hP with
   | [x,y],_,m1,m2,hP=>
    have hs:=q06 hne m1 m2
    have hf:=qfd hP
    rw [List.flatten_cons,List.flatten_cons,List.flatten_nil,List.append_nil,List.length_append]at hf
    omega
  next=> cases h
 next=> cases h
theorem qo4 {L:List V} {y:Cfg} (h:confF L= .ok y):okC y=true∧DigC y∧rightPF (bodyC y)=true∧(rowC y).length≤L.length:=by
 unfold confF at h
 split at h
 next d hs h1 h2=>
  split at h
  next=> cases h
  next hlen=>
   split at h
   next=> cases h
   next hcount=>
    obtain rfl:=OutC.ok.inj h
    obtain ⟨a1,a2⟩:=qj4 h1
    have nR:ofKey L rootK≠[]:=fun e=> by
     rw [e]at a2
     exact absurd a2 (by rw [List.length_nil];omega)
    obtain ⟨P,hP⟩:=qbn (qcv nR)
    have hB:=ObjIs.but hP rootK
    have hC:=ObjIs.but hB histK
    have hY:=ObjIs.srt hC
    obtain ⟨s1,s2,s3⟩:=qcn hC.right
    have l1:=qc7 hP rootK
    have l2:=qc7 hB histK
    have e2:ofKey (dropA L rootK) histK=ofKey L histK:=by
     rw [ObjIs.key hB,ObjIs.key hP,qg3 qea.symm]
    rw [e2]at l2
    have hlong:=qbc hP.right
    have keys:∀k,k∉(butF histK (butF rootK P)).map keyOf→k∉(ordF ((butF histK (butF rootK P)).map srt)).map keyOf:=fun k hk hm=> hk (by
     have:=((qa1 ((butF histK (butF rootK P)).map srt)).map keyOf).mem_iff.2 hm
     rw [qc8]at this
     exact this)
    have n1:=keys _ (qsg histK _ (qhd rootK P))
    have n2:=keys _ (qhd histK (butF rootK P))
    have hplain:=qgn hY n1 n2 s1
    have hd60:d.length≤60:=by omega
    have hH:(∀h∈hs,okH h=true∧rightPF (rowH h)=true)∧(∃ks2,Parts 2 false ks2 (hs.map rowH))∧(hs≠[]→(hs.map rowH).flatten.length+1≤(ofKey L histK).length):=by
     unfold histF at h2;split at h2
     ·obtain rfl:=Option.some.inj h2
      exact ⟨fun x hx=> (by cases hx),⟨[], .nil⟩,fun e=> absurd rfl e⟩
     ·unfold listO at h2
      split at h2
      next h5=>
       obtain ⟨q,m,kq,_,ks,hp,hl,hl2⟩:=qjg hP h5
       have hb:(partsL (ofKey L histK)).flatten.length≤4998:=by omega
       obtain ⟨b1,b2,b3,_⟩:=qqy hp hb h2
       exact ⟨b1,b2,fun _=> by omega⟩
      next=> cases h2
    obtain ⟨hH1,⟨ks2,hH2⟩,hH3⟩:=hH
    obtain ⟨c,hc⟩:∃c:Cfg,c=⟨d,hs,srt (dropA (dropA L rootK) histK)⟩:=⟨_,rfl⟩
    have c1:c.ids=d:=by rw [hc]
    have c2:c.hist=hs:=by rw [hc]
    have c3:c.rest=srt (dropA (dropA L rootK) histK):=by rw [hc]
    rw [←hc];rw [←c3]at hplain hY s3
    generalize ordF ((butF histK (butF rootK P)).map srt)=R at*;have hok:okC c=true:=by
     unfold okC;rw [hplain,c1,c2,decide_eq_true hd60,decide_eq_true (show hs.length≤200 by omega),decide_eq_true (show 0 < hs.length→layersN hs=d.length from fun h0=> by
      apply Classical.byContradiction
      intro hne;exact hcount ⟨h0,hne⟩),List.all_eq_true.2 fun x hx=> (hH1 x hx).1]
     rfl
    obtain ⟨t1,o1⟩:=qj0 d (key:=rootK) (n:=1) (o:=true) (fun h=> by cases h) qeu (by decide)
    have hrl:=qgi d
    have hrr:=qew hd60
    rw [qdj]at hrl hrr
    rw [List.length_cons]at hrl
    obtain ⟨x1,x2⟩:=ObjIs.add hY (key:=rootK) hrr o1 n1 (by omega)
    have hbody:rightPF (bodyC c)=true∧(bodyC c).length≤L.length:=by
     unfold bodyC;rw [c1,c2,qdj];by_cases hh:hs=[]
     ·rw [if_pos hh]
      exact ⟨x1.right,by omega⟩
     ·rw [if_neg hh]
      have hlz:=hH3 hh
      obtain ⟨t2,o2⟩:=qe8 (d:=1) (o:=true) (key:=histK) (by decide) (fun h=> by cases h) qeo hH2 rfl
      have hlr:rightPF (listF (hs.map rowH))=true:=qbf (qdv o2) (by omega)
      have hla:listA (hs.map rowH)=listF (hs.map rowH):=by
       unfold listA fineF;rw [if_pos (List.all_eq_true.2 fun p hp=> by
        obtain ⟨x,hx,rfl⟩:=List.mem_map.1 hp
        exact (hH1 x hx).2),if_pos hlr]
      have n3:histK∉(R++[(⟨6,rootK,[],2⟩:V)::(rootP d).flatten]).map keyOf:=by
       rw [List.map_append,List.mem_append];rintro (e | e)
       ·exact n2 e
       ·exact qea (List.mem_singleton.1 e).symm
      obtain ⟨z1,z2⟩:=ObjIs.add x1 (key:=histK) (v:=⟨5,[],[],((hs.map rowH).length:Nat)⟩) hlr o2 n3 (by omega)
      rw [hla];refine ⟨z1.right, ?_⟩
      show (setA _ histK (⟨5,[],[],((hs.map rowH).length:Nat)⟩::(hs.map rowH).flatten)).length≤_
      rw [z2];omega
    refine ⟨hok, ?_,hbody.1, ?_⟩
    ·unfold DigC
     rw [c1];exact a1
    ·unfold rowC sortA
     rw [if_pos hok,if_pos hbody.1,(qcn hbody.1).2.2];exact hbody.2
 next=> cases h
end Jo
end Go.Proofs.YtgmangikcfakgaaGreatDoor
