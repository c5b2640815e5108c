import Derived.Test.YtgmangikcfakgaaGreatDoorPA4
set_option maxRecDepth 100000
set_option maxHeartbeats 40000000
namespace Go.Proofs.YtgmangikcfakgaaGreatDoor
open Go
namespace Jo
open Jt Js
theorem qbp {d:Nat} {o:Bool} {key t:List UInt8} (hd:d < 50) (ho:o=false→key=[]) (hk:validF key=true) (h:validF t=true):One d o ⟨4,key,t,0⟩ [] []:=
 ⟨⟨ho,hk, .inr (.inr (.inl ⟨rfl,h,rfl⟩))⟩,hd,[], .nil _ _,rfl,fun e=> by cases e⟩
theorem qe8 {d n:Nat} {o:Bool} {key:List UInt8} {P:List (List V)} {ks:List (List UInt8)} (hd:d < 50) (ho:o=false→key=[]) (hk:validF key=true) (hp:Parts (d+1) false ks P) (hn:P.length=n):∃t,One d o ⟨5,key,[],n⟩ P.flatten t:=by
 obtain ⟨t,ht⟩:=hp.rows
 refine ⟨t,⟨ho,hk, .inr (.inr (.inr ⟨.inl rfl,rfl,by show (0:Int)≤(n:Int);omega⟩))⟩,hd,ks,ht, ?_,fun e=> by cases e⟩
 show (ks.length:Int)=(n:Int)
 rw [←hp.len,hn]
theorem qhs {v:V} {l:List V} {t:List UInt8} (h:One 0 false v l t) (hl:(v::l).length≤5000):rightPF (v::l)=true:=by
 have hr:=h.rows
 rw [h.own.1 rfl]at hr
 exact (qa4 _).2 ⟨_,hl,hr⟩
def i1:List V:=[⟨3,[],[49],0⟩]
def sx:List V:=[⟨4,[],[120],0⟩]
def E0:List V:=[⟨5,[],[],0⟩]
def O:List V:=[⟨6,[],[],2⟩,⟨3,[97],[45,53],0⟩,⟨5,[98],[],2⟩,⟨4,[],[120],0⟩,⟨3,[],[49],0⟩]
def D:List V:=[⟨6,[],[],2⟩,⟨4,[97],[121],0⟩,⟨5,[98],[],2⟩,⟨4,[],[120],0⟩,⟨3,[],[49],0⟩]
def E:List V:=[⟨6,[],[],3⟩,⟨3,[97],[45,53],0⟩,⟨5,[98],[],2⟩,⟨4,[],[120],0⟩,⟨3,[],[49],0⟩,⟨5,[99],[],0⟩]
def F:List V:=[⟨6,[],[],1⟩,⟨3,[97],[45,53],0⟩]
def P0:List (List V):=[[⟨3,[97],[45,53],0⟩],[⟨5,[98],[],2⟩,⟨4,[],[120],0⟩,⟨3,[],[49],0⟩]]
end Jo
end Go.Proofs.YtgmangikcfakgaaGreatDoor
namespace Go.Proofs.YtgmangikcfakgaaGreatDoor
open Go
namespace Jo
open Jt Js
def rootK:List UInt8:=[114,111,111,116,102,115]
def histK:List UInt8:=[104,105,115,116,111,114,121]
def typeK:List UInt8:=[116,121,112,101]
def diffK:List UInt8:=[100,105,102,102,95,105,100,115]
def byK:List UInt8:=[99,114,101,97,116,101,100,95,98,121]
def emptyK:List UInt8:=[101,109,112,116,121,95,108,97,121,101,114]
structure Hist where
 who:List UInt8
 empty:Bool
 rest:List V
structure Cfg where
 ids:List (List UInt8)
 hist:List Hist
 rest:List V
def layersN:List Hist→Nat
 | []=> 0
 | h::r=> if h.empty=true then layersN r else layersN r+1
def allO {α:Type} (f:List V→Option α):List (List V)→Option (List α)
 | []=> some []
 | p::P=> (f p).bind fun a=> (allO f P).bind fun r=> some (a::r)
def listO {α:Type} (f:List V→Option α) (L:List V):Option (List α):=if kindOf L=5 then allO f (partsL L) else none
def digO (p:List V):Option (List UInt8):=(tellF 4 p).bind Dg.parse
def idsF (L:List V):Option (List (List UInt8)):=if countOf L=2∧memF L typeK 4=some layersK then listO digO (ofKey L diffK) else none
def entryF (p:List V):Option Hist:=
 if isO p=true∧(ofKey p byK=[]∨kindOf (ofKey p byK)=4)∧(ofKey p emptyK=[]∨kindOf (ofKey p emptyK)=1∨kindOf (ofKey p emptyK)=2) then
  some ⟨textOf (ofKey p byK),decide (kindOf (ofKey p emptyK)=1),srt (dropA (dropA p byK) emptyK)⟩
 else none
def histF (L:List V):Option (List Hist):=if ofKey L histK=[] then some [] else listO entryF (ofKey L histK)
inductive OutC where
 | ok (c:Cfg)
 | err (e:Nat)
def confF (L:List V):OutC:=match idsF (ofKey L rootK),histF L with
 | some d,some h=> if 60 < d.length∨200 < h.length then .err 2 else if 0 < h.length∧layersN h≠d.length then .err 3 else .ok ⟨d,h,srt (dropA (dropA L rootK) histK)⟩
 | _,_=> .err 3
def parseC (s:List UInt8):OutC:=match parseF s with
 | .ok _ l _=> confF l
 | .err e=> .err e
def plainF (L:List V) (a b:List UInt8):Bool:=isO L && decide (getA L 0 a=none) && decide (getA L 0 b=none) && decide (srt L=L)
def idV (d:List UInt8):List V:=[⟨4,[],Dg.text d,0⟩]
def rootV (ids:List (List UInt8)):List V:=⟨6,[],[],2⟩::⟨4,typeK,layersK,0⟩::⟨5,diffK,[],(ids.length:Nat)⟩::(ids.map idV).flatten
def rowH (h:Hist):List V:=
 let l:=if h.who=[] then h.rest else setA h.rest byK [⟨4,[],h.who,0⟩]
 if h.empty=true then setA l emptyK [⟨1,[],[],0⟩] else l
def bodyC (c:Cfg):List V:=
 let x:=setA c.rest rootK (rootV c.ids)
 if c.hist=[] then x else setA x histK (listA (c.hist.map rowH))
def okH (h:Hist):Bool:=plainF h.rest byK emptyK && validF h.who
def okC (c:Cfg):Bool:=plainF c.rest rootK histK && decide (c.ids.length≤60) && decide (c.hist.length≤200) && decide (0 < c.hist.length→layersN c.hist=c.ids.length) && c.hist.all okH
def rowC (c:Cfg):List V:=if okC c=true then sortA (bodyC c) else []
def DigC (c:Cfg):Prop:=∀d∈c.ids,d.length=32
theorem qhb {L:List V} {a b:List UInt8} (h:plainF L a b=true):∃P,ObjIs L P∧a∉P.map keyOf∧b∉P.map keyOf∧srt L=L:=by
 unfold plainF at h
 rw [Bool.and_eq_true,Bool.and_eq_true,Bool.and_eq_true]at h
 obtain ⟨P,hP⟩:=qbn h.1.1.1
 exact ⟨P,hP,(qce hP _).1 (of_decide_eq_true h.1.1.2),(qce hP _).1 (of_decide_eq_true h.1.2),of_decide_eq_true h.2⟩
theorem qgn {L:List V} {P:List (List V)} {a b:List UInt8} (h:ObjIs L P) (ha:a∉P.map keyOf) (hb:b∉P.map keyOf) (hs:srt L=L):plainF L a b=true:=by
 unfold plainF
 rw [h.isO,decide_eq_true ((qce h _).2 ha),decide_eq_true ((qce h _).2 hb),decide_eq_true hs]
 rfl
theorem qpo {a b:List UInt8}:∀ {Z:List (List V)},(∀z∈Z,keyOf z=a∨keyOf z=b)→butF b (butF a Z)=[]
 | [],_=> rfl
 | z::Z,h=> by
  have ih:=qpo (a:=a) (b:=b) (Z:=Z) fun x hx=> h x (List.mem_cons_of_mem _ hx)
  by_cases ha:keyOf z=a
  ·rw [qdu ha]
   exact ih
  ·rw [qfk ha]
   rcases h z List.mem_cons_self with e | e
   ·exact absurd e ha
   ·rw [qdu e]
    exact ih
theorem qny {L X:List V} {P Z:List (List V)} {a b:List UInt8} (hP:ObjIs L P) (hs:srt L=L) (ha:a∉P.map keyOf) (hb:b∉P.map keyOf) (hX:ObjIs X (P++Z)) (hZ:∀z∈Z,keyOf z=a∨keyOf z=b):srt (dropA (dropA (srt X) a) b)=L:=by
 have hD:=ObjIs.but (ObjIs.but (ObjIs.srt hX) a) b
 have hR:=ObjIs.srt hP
 rw [hs]at hR
 rw [qzg hD hR,hs]
 refine (qpm (qpm (qa1 _).symm)).trans ?_
 rw [List.map_append,qse,qse,qpo (Z:=Z.map srt) (fun z hz=> by
  obtain ⟨y,hy,rfl⟩:=List.mem_map.1 hz
  rw [qme];exact hZ y hy)]
 rw [qfa (key:=a) (by rw [qc8];exact ha),qfa (key:=b) (P:=P.map srt) (by rw [qc8];exact hb),List.append_nil]
 exact qa1 _
theorem qhh {X:List V} {P Z:List (List V)} {k:List UInt8} (hX:ObjIs X (P++Z)) (hk:k∉P.map keyOf):ofKey (srt X) k=srt (look Z k):=by
 show cutA (srt X) (plc (getA (srt X) 0 k))=_
 rw [qlv hX,hX.look,qki _ hk]
def partsH (h:Hist):List (List V):=(if h.who=[] then [] else [[⟨4,byK,h.who,0⟩]])++(if h.empty=true then [[⟨1,emptyK,[],0⟩]] else [])
theorem qg1:byK≠emptyK:=by decide
theorem qrw (h:Hist):∀z∈partsH h,keyOf z=byK∨keyOf z=emptyK:=by
 intro z hz
 unfold partsH at hz
 rcases List.mem_append.1 hz with hz | hz
 ·split at hz
  ·cases hz
  ·rw [List.mem_singleton.1 hz]
   exact .inl rfl
 ·split at hz
  ·rw [List.mem_singleton.1 hz]
   exact .inr rfl
  ·cases hz
theorem q1d (h:Hist):look (partsH h) byK=if h.who=[] then [] else [⟨4,[],h.who,0⟩]:=by
 unfold partsH
 by_cases hw:h.who=[]
 ·rw [if_pos hw,if_pos hw,List.nil_append]
  split
  ·rw [qa2,if_neg (show ¬keyOf [(⟨1,emptyK,[],0⟩:V)]=byK from by decide)]
   rfl
  ·rfl
 ·rw [if_neg hw,if_neg hw,List.singleton_append,qa2,if_pos (show keyOf [(⟨4,byK,h.who,0⟩:V)]=byK from rfl)]
  rfl
theorem qs2 (h:Hist):look (partsH h) emptyK=if h.empty=true then [⟨1,[],[],0⟩] else []:=by
 unfold partsH
 have e:∀Z:List (List V),look ((if h.who=[] then [] else [[⟨4,byK,h.who,0⟩]])++Z) emptyK=look Z emptyK:=fun Z=> by
  split
  ·rfl
  ·rw [List.singleton_append,qa2,if_neg (show ¬keyOf [(⟨4,byK,h.who,0⟩:V)]=emptyK from qg1)]
 rw [e]
 split
 ·rw [qa2,if_pos (show keyOf [(⟨1,emptyK,[],0⟩:V)]=emptyK from rfl)]
  rfl
 ·rfl
theorem qav {L:List V} (h:rightPF L=true):0 < L.length:=(qbo h).2.1
theorem qm4 {L:List V} (h:isO L=true):rightPF L=true:=by
 unfold isO at h
 rw [Bool.and_eq_true]at h
 exact h.1
theorem q1a {h:Hist} (ho:okH h=true) (hr:rightPF (rowH h)=true):∃P,ObjIs h.rest P∧byK∉P.map keyOf∧emptyK∉P.map keyOf∧srt h.rest=h.rest∧ObjIs (rowH h) (P++partsH h):=by
 unfold okH at ho
 rw [Bool.and_eq_true]at ho
 obtain ⟨P,hP,h1,h2,h3⟩:=qhb ho.1
 refine ⟨P,hP,h1,h2,h3, ?_⟩
 obtain ⟨X,hX⟩:∃X,X=if h.who=[] then h.rest else setA h.rest byK [⟨4,[],h.who,0⟩]:=⟨_,rfl⟩
 have hrow:rowH h=if h.empty=true then setA X emptyK [⟨1,[],[],0⟩] else X:=by rw [hX];rfl
 rw [hrow]at hr ⊢
 have hXr:0 < X.length:=by
  by_cases he:h.empty=true
  ·rw [if_pos he]at hr
   exact qav (qm4 (qio (qav hr)).1)
  ·rw [if_neg he]at hr
   exact qav hr
 have hXo:ObjIs X (P++if h.who=[] then [] else [[⟨4,byK,h.who,0⟩]]):=by
  by_cases hw:h.who=[]
  ·rw [if_pos hw]at hX ⊢
   rw [hX,List.append_nil];exact hP
  ·rw [if_neg hw]at hX ⊢
   rw [hX]at hXr ⊢
   exact (qf8 hP h1 hXr).1
 unfold partsH
 rw [←List.append_assoc]
 by_cases he:h.empty=true
 ·rw [if_pos he,if_pos he]
  rw [if_pos he]at hr
  refine (qf8 hXo ?_ (qav hr)).1
  rw [List.map_append,List.mem_append];rintro (e | e)
  ·exact h2 e
  ·split at e
   ·cases e
   ·have:=List.mem_singleton.1 e
    exact qg1 this.symm
 ·rw [if_neg he,if_neg he,List.append_nil]
  exact hXo
theorem qlx (k:Int) (t:List UInt8):srt [⟨k,[],t,0⟩]=[⟨k,[],t,0⟩]:=by
 unfold srt
 show sortF 1 _=_
 rw [sortF]
 show _::((if isObj _=true then ordF else id) ((partsF (0:Int).toNat []).map (sortF 0))).flatten=_
 have:partsF (0:Int).toNat []=[]:=rfl
 rw [this]
 split <;> rfl
theorem qmf:srt []=[]:=rfl
theorem qwi {h:Hist} (ho:okH h=true) (hr:rightPF (rowH h)=true):entryF (srt (rowH h))=some h:=by
 obtain ⟨P,hP,h1,h2,h3,hX⟩:=q1a ho hr
 have kb:ofKey (srt (rowH h)) byK=if h.who=[] then [] else [⟨4,[],h.who,0⟩]:=by
  rw [qhh hX h1,q1d];split
  ·exact qmf
  ·exact qlx _ _
 have ke:ofKey (srt (rowH h)) emptyK=if h.empty=true then [⟨1,[],[],0⟩] else []:=by
  rw [qhh hX h2,qs2];split
  ·exact qlx _ _
  ·exact qmf
 have hrest:=qny hP h3 h1 h2 hX (qrw h)
 unfold entryF
 rw [kb,ke,hrest,(ObjIs.srt hX).isO]
 have g1:(if h.who=[] then [] else [(⟨4,[],h.who,0⟩:V)])=[]∨kindOf (if h.who=[] then [] else [(⟨4,[],h.who,0⟩:V)])=4:=by
  split
  ·exact .inl rfl
  ·exact .inr rfl
 have g2:(if h.empty=true then [(⟨1,[],[],0⟩:V)] else [])=[]∨kindOf (if h.empty=true then [(⟨1,[],[],0⟩:V)] else [])=1∨kindOf (if h.empty=true then [(⟨1,[],[],0⟩:V)] else [])=2:=by
  split
  ·exact .inr (.inl rfl)
  ·exact .inl rfl
 have e1:textOf (if h.who=[] then [] else [(⟨4,[],h.who,0⟩:V)])=h.who:=by
  split
  next e=> rw [e];rfl
  next=> rfl
 have e2:decide (kindOf (if h.empty=true then [(⟨1,[],[],0⟩:V)] else [])=1)=h.empty:=by
  split
  next e=> rw [e];rfl
  next e=> rw [Bool.eq_false_iff.2 e];rfl
 rw [if_pos ⟨rfl,g1,g2⟩,e1,e2]
theorem qjt {α β:Type} {f:List V→Option α} {g:β→List V} {k:β→α}:∀ {ls:List β},(∀d∈ls,f (g d)=some (k d))→allO f (ls.map g)=some (ls.map k)
 | [],_=> rfl
 | d::r,h=> by
  rw [List.map_cons,allO,h d List.mem_cons_self,qjt (k:=k) fun x hx=> h x (List.mem_cons_of_mem _ hx)];rfl
end Jo
end Go.Proofs.YtgmangikcfakgaaGreatDoor
namespace Go.Proofs.YtgmangikcfakgaaGreatDoor
open Go
namespace Jo
open Jt Js
theorem qg5:validF typeK=true:=qax _ (by decide)
theorem qgw:validF diffK=true:=qax _ (by decide)
theorem qeu:validF rootK=true:=qax _ (by decide)
theorem qeo:validF histK=true:=qax _ (by decide)
theorem qj1:validF byK=true:=qax _ (by decide)
theorem qf4:validF emptyK=true:=qax _ (by decide)
theorem qea:rootK≠histK:=by decide
theorem qw8:typeK≠diffK:=by decide
theorem qd8 {d:Nat} (hd:d < 50):∀ids:List (List UInt8),Parts d false (ids.map fun _=> []) (ids.map idV)
 | []=> .nil
 | x::r=> .cons (qbp hd (fun _=> rfl) qaw (qes x)) (qd8 hd r)
theorem qfp:∀ids:List (List UInt8),(ids.map idV).flatten.length=ids.length
 | []=> rfl
 | x::r=> by
  rw [List.map_cons,List.flatten_cons,List.length_append,qfp r,List.length_cons];show 1+_=_
  omega
def rootP (ids:List (List UInt8)):List (List V):=[[⟨4,typeK,layersK,0⟩],⟨5,diffK,[],(ids.length:Nat)⟩::(ids.map idV).flatten]
theorem qdj (ids:List (List UInt8)):rootV ids=⟨6,[],[],2⟩::(rootP ids).flatten:=by
 unfold rootV rootP
 simp
theorem qgi (ids:List (List UInt8)):(rootV ids).length=3+ids.length:=by
 unfold rootV
 rw [List.length_cons,List.length_cons,List.length_cons,qfp]
 omega
theorem qkl {n:Nat} (hn:n < 48) (ids:List (List UInt8)):Parts (n+1) true [typeK,diffK] (rootP ids):=by
 obtain ⟨t,ht⟩:=qe8 (d:=n+1) (o:=true) (key:=diffK) (by omega) (fun h=> by cases h) qgw (qd8 (d:=n+2) (by omega) ids) (List.length_map _)
 exact .cons (qbp (by omega) (fun h=> by cases h) qg5 qqu) (.cons ht .nil)
theorem qj0 (ids:List (List UInt8)) {key:List UInt8} {n:Nat} {o:Bool} (ho:o=false→key=[]) (hk:validF key=true) (hn:n < 48):∃t,One n o ⟨6,key,[],2⟩ (rootP ids).flatten t:=by
 obtain ⟨t,ht⟩:=(qkl hn ids).rows
 exact ⟨t,⟨ho,hk, .inr (.inr (.inr ⟨.inr rfl,rfl,(show (0:Int)≤2 by decide)⟩))⟩,by omega,_,ht,rfl,fun _=> by decide⟩
theorem qew {ids:List (List UInt8)} (hl:ids.length≤60):rightPF (rootV ids)=true:=by
 obtain ⟨t,ht⟩:=qj0 ids (key:=[]) (n:=0) (o:=false) (fun _=> rfl) qaw (by decide)
 have h:=qgi ids
 rw [qdj]at h ⊢
 rw [List.length_cons]at h
 exact qbf ht (by omega)
theorem qsb {ids:List (List UInt8)} (hl:ids.length≤60):ObjIs (rootV ids) (rootP ids):=by
 have h:=qew hl
 rw [qdj]at h ⊢
 exact ObjIs.of (n:=2) rfl h (qb2 (qkl (n:=0) (by decide) ids))
theorem qy2 (ids:List (List UInt8)):srt (⟨5,[],[],(ids.length:Nat)⟩::(ids.map idV).flatten)=⟨5,[],[],(ids.length:Nat)⟩::(ids.map idV).flatten:=by
 have e:(ids.map idV).map srt=ids.map idV:=by
  rw [List.map_map];exact List.map_congr_left fun d _=> qlx _ _
 rw [qqm (qd8 (by decide) ids) (List.length_map _),e]
theorem q1b {ids:List (List UInt8)} (hl:ids.length≤60) (hd:∀d∈ids,d.length=32):idsF (srt (rootV ids))=some ids:=by
 have hO:=qsb hl
 have h1:memF (srt (rootV ids)) typeK 4=some layersK:=by
  rw [q08 hO];unfold memF;rw [ObjIs.key hO];rfl
 have h2:ofKey (srt (rootV ids)) diffK=⟨5,[],[],(ids.length:Nat)⟩::(ids.map idV).flatten:=by
  show cutA (srt (rootV ids)) (plc (getA (srt (rootV ids)) 0 diffK))=_
  rw [qlv hO,hO.look];exact qy2 ids
 unfold idsF
 rw [qu7,h1,h2,if_pos ⟨rfl,rfl⟩]
 unfold listO
 rw [if_pos (show kindOf (⟨5,[],[],(ids.length:Nat)⟩::(ids.map idV).flatten)=5 from rfl),qkr (qd8 (by decide) ids) (List.length_map _)]
 have:=qjt (f:=digO) (g:=idV) (k:=id) (ls:=ids) fun d hm=> by
  unfold digO tellF idV;show (Dg.parse (Dg.text d))=some d
  exact Dg.qu0 d (hd d hm)
 rw [this,List.map_id]
def partsC (c:Cfg):List (List V):=[named rootK (rootV c.ids)]++(if c.hist=[] then [] else [named histK (listF (c.hist.map rowH))])
theorem qq3 (c:Cfg):∀z∈partsC c,keyOf z=rootK∨keyOf z=histK:=by
 intro z hz
 unfold partsC at hz
 rcases List.mem_append.1 hz with hz | hz
 ·rw [List.mem_singleton.1 hz]
  exact .inl rfl
 ·split at hz
  ·cases hz
  ·rw [List.mem_singleton.1 hz]
   exact .inr rfl
structure ConfIs (c:Cfg) (P:List (List V)) (X:List V):Prop where
 rest:ObjIs c.rest P
 noR:rootK∉P.map keyOf
 noH:histK∉P.map keyOf
 same:srt c.rest=c.rest
 obj:ObjIs X (P++partsC c)
 row:rowC c=srt X
 each:∀h∈c.hist,rightPF (rowH h)=true
 list:c.hist≠[]→rightPF (listF (c.hist.map rowH))=true
theorem qg4 {c:Cfg} (h:okC c=true):plainF c.rest rootK histK=true∧c.ids.length≤60∧c.hist.length≤200∧(0 < c.hist.length→layersN c.hist=c.ids.length)∧∀h∈c.hist,okH h=true:=by
 unfold okC at h
 rw [Bool.and_eq_true,Bool.and_eq_true,Bool.and_eq_true,Bool.and_eq_true]at h
 exact ⟨h.1.1.1.1,of_decide_eq_true h.1.1.1.2,of_decide_eq_true h.1.1.2,of_decide_eq_true h.1.2,List.all_eq_true.1 h.2⟩
theorem qiv (c:Cfg):rowC c=[]∨(okC c=true∧rightPF (bodyC c)=true∧rowC c=srt (bodyC c)∧rightPF (rowC c)=true):=by
 unfold rowC
 by_cases h:okC c=true
 ·rw [if_pos h]
  unfold sortA;by_cases hr:rightPF (bodyC c)=true
  ·rw [if_pos hr]
   exact .inr ⟨h,hr,rfl,(qcn hr).2.1⟩
  ·rw [if_neg hr]
   exact .inl rfl
 ·rw [if_neg h]
  exact .inl rfl
theorem qlo {c:Cfg} (hok:okC c=true) (hr:rightPF (bodyC c)=true):∃P,ConfIs c P (bodyC c):=by
 obtain ⟨h1,h2,h3,h4,h5⟩:=qg4 hok
 obtain ⟨P,hP,n1,n2,hs⟩:=qhb h1
 have hrow:rowC c=srt (bodyC c):=by
  unfold rowC sortA;rw [if_pos hok,if_pos hr]
 obtain ⟨X,hX⟩:∃X,X=setA c.rest rootK (rootV c.ids):=⟨_,rfl⟩
 have hb:bodyC c=if c.hist=[] then X else setA X histK (listA (c.hist.map rowH)):=by rw [hX];rfl
 by_cases hh:c.hist=[]
 ·rw [if_pos hh]at hb
  rw [hb]at hr
  rw [hX]at hr
  have a1:=(qf8 hP n1 (qav hr)).1
  refine ⟨P,hP,n1,n2,hs, ?_,hrow,fun h hm=> (by rw [hh]at hm;cases hm),fun h=> absurd hh h⟩
  rw [hb,hX];unfold partsC;rw [if_pos hh,List.append_nil];exact a1
 ·rw [if_neg hh]at hb
  rw [hb]at hr
  obtain ⟨i1,i2,_,_⟩:=qio (qav hr)
  have hX0:=qm4 i1
  rw [hX]at hX0
  have a1:=(qf8 hP n1 (qav hX0)).1
  rw [←hX]at a1
  have hli:(c.hist.map rowH).all rightPF=true∧rightPF (listF (c.hist.map rowH))=true∧listA (c.hist.map rowH)=listF (c.hist.map rowH):=by
   have h0:=qav i2
   unfold listA fineF at h0 ⊢
   split at h0
   next e=>
    split at h0
    next e2=> exact ⟨e,e2,by rw [if_pos e,if_pos e2]⟩
    next=> exact absurd h0 (Nat.lt_irrefl _)
   next=> exact absurd h0 (Nat.lt_irrefl _)
  have hn:histK∉(P++[named rootK (rootV c.ids)]).map keyOf:=by
   rw [List.map_append,List.mem_append];rintro (e | e)
   ·exact n2 e
   ·exact qea (List.mem_singleton.1 e).symm
  have a2:=(qf8 a1 hn (qav hr)).1
  refine ⟨P,hP,n1,n2,hs, ?_,hrow,fun h hm=> List.all_eq_true.1 hli.1 _ (List.mem_map.2 ⟨h,hm,rfl⟩),fun _=> hli.2.1⟩
  rw [hb];unfold partsC;rw [if_neg hh,←List.append_assoc,←hli.2.2];exact a2
theorem qys {c:Cfg} (hne:rowC c≠[]) (hd:DigC c):confF (rowC c)= .ok c:=by
 rcases qiv c with e | ⟨hok,hr, -, -⟩
 ·exact absurd e hne
 obtain ⟨P,hC⟩:=qlo hok hr
 obtain ⟨h1,h2,h3,h4,h5⟩:=qg4 hok
 have hi:idsF (ofKey (rowC c) rootK)=some c.ids:=by
  rw [hC.row,qhh hC.obj hC.noR];have:look (partsC c) rootK=rootV c.ids:=by
   unfold partsC;rw [List.singleton_append,qa2,if_pos (show keyOf (named rootK (rootV c.ids))=rootK from rfl)];rfl
  rw [this];exact q1b h2 hd
 have hh:histF (rowC c)=some c.hist:=by
  have hk:ofKey (rowC c) histK=srt (if c.hist=[] then [] else listF (c.hist.map rowH)):=by
   rw [hC.row,qhh hC.obj hC.noH];congr 1
   unfold partsC;rw [List.singleton_append,qa2,if_neg (show ¬keyOf (named rootK (rootV c.ids))=histK from qea)];split
   ·rfl
   ·rw [qa2,if_pos (show keyOf (named histK (listF (c.hist.map rowH)))=histK from rfl)]
    rfl
  unfold histF;by_cases e:c.hist=[]
  ·rw [hk,if_pos e,if_pos qmf,e]
  ·rw [if_neg e]at hk
   obtain ⟨ks,hp,_⟩:=qjj (v:=⟨5,[],[],((c.hist.map rowH).length:Nat)⟩) (P:=c.hist.map rowH) (hC.list e) (qoy (List.all_eq_true.2 fun p hp=> by
    obtain ⟨h,hm,rfl⟩:=List.mem_map.1 hp
    exact hC.each h hm)) rfl
   have es:srt (listF (c.hist.map rowH))=⟨5,[],[],((c.hist.map rowH).length:Nat)⟩::((c.hist.map rowH).map srt).flatten:=qqm hp rfl
   rw [hk,es,if_neg (List.cons_ne_nil _ _)];unfold listO;rw [if_pos (show kindOf (⟨5,[],[],((c.hist.map rowH).length:Nat)⟩::((c.hist.map rowH).map srt).flatten)=5 from rfl),qkr (qh1 hp) (List.length_map _),List.map_map];have:=qjt (f:=entryF) (g:=fun h=> srt (rowH h)) (k:=id) (ls:=c.hist) fun h hm=> qwi (h5 h hm) (hC.each h hm)
   rw [List.map_id]at this
   exact this
 have hrest:srt (dropA (dropA (rowC c) rootK) histK)=c.rest:=by
  rw [hC.row];exact qny hC.rest hC.same hC.noR hC.noH hC.obj (qq3 c)
 unfold confF
 rw [hi,hh,hrest]
 show (if 60 < c.ids.length∨200 < c.hist.length then OutC.err 2 else if 0 < c.hist.length∧layersN c.hist≠c.ids.length then OutC.err 3 else _)=_
 rw [if_neg (by omega),if_neg (fun h=> h.2 (h4 h.1))]
end Jo
end Go.Proofs.YtgmangikcfakgaaGreatDoor
