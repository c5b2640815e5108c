import Derived.Test.YtgmangikcfakgaaGreatDoorPA14
set_option maxRecDepth 100000
set_option maxHeartbeats 40000000
namespace Go.Proofs.YtgmangikcfakgaaGreatDoor
open Go.RowKit Sh Jt Js
theorem below_alloc' (w:World) (o:Obj):Below w.heap.size w (w.alloc o):=(Below.refl _ _).alloc (Nat.le_refl _) _
theorem qku (w:World) (v:V):Calls Tryz.prog 90 #[.agg (vv v).toArray] w fun e w'=> e= .returned (.bool (grp v))∧Hid (Below w.heap.size w w'):=by
 obtain ⟨k,key,t,n⟩:=v
 have HB:=Qh (below_alloc' w (.cells (vv ⟨k,key,t,n⟩).toArray 72))
 have hg:grp ⟨k,key,t,n⟩=decide (k=5∨k=6):=rfl
 rw [hg]
 unfold vv at*
 dsimp only at*
 clear hg
 by_cases h5:k=5
 ·subst h5
  go_enter Tryz.func90,Tryz.ntmps90
  go_wp2_with fail;go_ret;exact ⟨rfl,HB⟩
 ·by_cases h6:k=6
  ·subst h6
   go_enter Tryz.func90,Tryz.ntmps90
   go_wp2_with fail;go_ret;exact ⟨rfl,HB⟩
  ·have hb5:(k==5)=false:=beq_eq_false_iff_ne.2 h5
   have hb6:(k==6)=false:=beq_eq_false_iff_ne.2 h6
   have hd:decide (k=5∨k=6)=false:=decide_eq_false (by omega)
   rw [hd];clear hd;go_enter Tryz.func90,Tryz.ntmps90
   go_wp2_with fail;go_ret;exact ⟨rfl,HB⟩
namespace Js
def endN (L:List V) (at_:Nat):Int:=if at_ < L.length then (match endP (L.drop at_) 1 with
 | some k=> (at_:Int)+k
 | none=> -1) else -1
structure EndS (L:List V) (a p q:Nat):Prop where
 le:a≤p
 room:p+q≤L.length
 res:endP (L.drop a) 1=(endP (L.drop p) q).map (p - a+·)
theorem EndS.start {L:List V} {a:Nat} (h:a < L.length):EndS L a a 1:=⟨Nat.le_refl _,by omega,by
 rw [Nat.sub_self]
 cases endP (L.drop a) 1 with
 | none=> rfl
 | some k=> rw [Option.map_some,Nat.zero_add]⟩
theorem EndS.over {L:List V} {a p:Nat} (h:EndS L a p 0) (ha:a < L.length):endN L a=(p:Int):=by
 have h1:=h.res
 have h2:=h.le
 rw [qb0,Option.map_some]at h1
 unfold endN
 rw [if_pos ha,h1]
 show (a:Int)+((p - a+0:Nat):Int)=p
 omega
theorem EndS.bad {L:List V} {a p q:Nat} (h:EndS L a p q) (ha:a < L.length) (hn:endP (L.drop p) q=none):endN L a= -1:=by
 unfold endN
 rw [if_pos ha,h.res,hn]
 rfl
theorem EndS.neg {L:List V} {a p q:Nat} (h:EndS L a p (q+1)) (ha:a < L.length) (hp:p < L.length) (hc:L[p].count < 0):endN L a= -1:=by
 refine h.bad ha ?_
 rw [List.drop_eq_getElem_cons hp,endP,if_pos hc]
theorem EndS.leaf {L:List V} {a p q:Nat} (h:EndS L a p (q+1)) (hp:p < L.length) (hc:¬L[p].count < 0) (hg:grp L[p]=false):EndS L a (p+1) q:=by
 have h1:=h.le
 have h2:=h.room
 refine ⟨by omega,by omega, ?_⟩
 rw [h.res,List.drop_eq_getElem_cons hp,endP,if_neg hc,hg,if_neg (by decide),Option.map_map]
 congr 1
 funext x
 simp only [Function.comp]
 omega
theorem EndS.far {L:List V} {a p q:Nat} (h:EndS L a p (q+1)) (ha:a < L.length) (hp:p < L.length) (hc:¬L[p].count < 0) (hg:grp L[p]=true) (hf:(L.length:Int) - p - 1 - q < L[p].count):endN L a= -1:=by
 refine h.bad ha ?_
 have h2:=h.room
 rw [List.drop_eq_getElem_cons hp,endP,if_neg hc,hg,if_pos rfl,qxf]
 ·rfl
 ·rw [List.length_drop]
  omega
theorem EndS.more {L:List V} {a p q:Nat} (h:EndS L a p (q+1)) (hp:p < L.length) (hc:¬L[p].count < 0) (hg:grp L[p]=true) (hf:¬(L.length:Int) - p - 1 - q < L[p].count):EndS L a (p+1) (L[p].count.toNat+q):=by
 have h1:=h.le
 have h2:=h.room
 refine ⟨by omega,by omega, ?_⟩
 rw [h.res,List.drop_eq_getElem_cons hp,endP,if_neg hc,hg,if_pos rfl,Option.map_map]
 congr 1
 funext x
 simp only [Function.comp]
 omega
end Js
theorem qfm (w:World) (A:Option Addr) (n c:Nat) (L:List V) (hL:ValsAt w A n c L) (hn:n≤250000) (a:Nat) (ha9:a≤1000000):
  Calls Tryz.prog 55 #[.slice A n c, .int .i64 (a:Int)] w fun e w'=> e= .returned (.int .i64 (endN L a))∧Hid (Below w.heap.size w w'):=by
 have hlen:=hL.len
 have ha0:¬(a:Int) < 0:=by omega
 have hb0:decide ((a:Int) < 0)=false:=decide_eq_false ha0
 by_cases ha:a < n
 ·have ha1:¬(n:Int)≤(a:Int):=by omega
  have HL:=Qh hL
  obtain ⟨b,o,rfl,_,_⟩:=hL.at_ (by omega)
  clear hL;go_enter Tryz.func55,Tryz.ntmps55
  go_wp2_with fail;go_loopg [1,5] (n - a) (fun g va vn wx=> ∃p q:Nat,va= .int .i64 (p:Int)∧vn= .int .i64 (q:Int)∧p+g=n∧q≤n∧Hid (EndS L a p q)∧Hid (Below w.heap.size w wx))
  case atStart=> exact ⟨a,1,rfl,rfl,by omega,by omega,Qh (EndS.start (by omega)),Qh (Below.refl _ _)⟩
  case round=>
   obtain ⟨p,q,rfl,rfl,hpg,hqn,HS,HB⟩:=hrel
   cases q with
   | zero=>
    have HX:=Qh (HS.out.over (by omega))
    clear HS;go_wp2_with fail;go_ret;exact ⟨by rw [HX.out];rfl,HB⟩
   | succ q=>
    have hroom:=HS.out.room
    have hp:p < L.length:=by omega
    cases gk with
    | zero=> omega
    | succ g=>
    obtain ⟨c0,c1,c2,c3⟩:=(HL.out.below HB.out).cells hp
    have HH:=Qh (fun W=> show Calls Tryz.prog 90 #[.agg #[.int .i64 L[p].kind, .string (sb L[p].key), .string (sb L[p].text), .int .i64 L[p].count]] W fun e w'=> e= .returned (.bool (grp L[p]))∧Hid (Below W.heap.size W w')from qku W L[p])
    have hlt:(p:Int) < (n:Int):=by omega
    have hp0:(0:Int)≤(p:Int):=by omega
    have hq0:(0:Int)≤(q:Int):=by omega
    have hn9:(n:Int)≤250000:=by omega
    have hqn':(q:Int)+1≤(n:Int):=by omega
    by_cases hc:L[p].count < 0
    ·have HX:=Qh (HS.out.neg (by omega) hp hc)
     generalize L[p]=v at*;obtain ⟨k,key,t,z⟩:=v
     dsimp only at*
     clear HS HH;go_wp2_with fail;go_ret;exact ⟨by rw [HX.out];rfl,HB⟩
    ·have hz9:L[p].count≤9223372036854775807∨9223372036854775807 < L[p].count:=by omega
     have HSZ:=Qh HB.out.size
     cases hg:grp L[p]with
     | false=>
      rw [hg]at HH
      have HX:=Qh (HS.out.leaf hp hc hg)
      generalize L[p]=v at*;obtain ⟨k,key,t,z⟩:=v
      dsimp only at*
      clear HS hg hz9;go_wp2_with fail;refine (HH.out _).mono ?_
      rintro e w2 ⟨rfl,HB2⟩;have HB3:=Qh (HB.out.trans (HB2.out.mono HSZ.out))
      clear HH HB2 c0 c1 c2 c3;go_wp2_with fail;go_roundg g
      case measure=> omega
      case rel=> exact ⟨p+1,q,by go_num,by go_num,by omega,by omega,HX,HB3⟩
     | true=>
      rw [hg]at HH
      by_cases hf:(L.length:Int) - p - 1 - q < L[p].count
      ·have HX:=Qh (HS.out.far (by omega) hp hc hg hf)
       rw [hlen]at hf
       generalize L[p]=v at*;obtain ⟨k,key,t,z⟩:=v
       dsimp only at*
       clear HS hg hz9;go_wp2_with fail;refine (HH.out _).mono ?_
       rintro e w2 ⟨rfl,HB2⟩;have HB3:=Qh (HB.out.trans (HB2.out.mono HSZ.out))
       have c4:w2.cell? ⟨b,o+p*4+3,none⟩=some (.int .i64 z):=(qad HB2.out).cell c3 (fun h=> h)
       clear HH HB2 c0 c1 c2 c3;go_wp2_with fail;go_ret;exact ⟨by rw [HX.out];rfl,HB3⟩
      ·have HX:=Qh (HS.out.more hp hc hg hf)
       rw [hlen]at hf
       generalize L[p]=v at*;obtain ⟨k,key,t,z⟩:=v
       dsimp only at*
       clear HS hg hz9;go_wp2_with fail;refine (HH.out _).mono ?_
       rintro e w2 ⟨rfl,HB2⟩;have HB3:=Qh (HB.out.trans (HB2.out.mono HSZ.out))
       have c4:w2.cell? ⟨b,o+p*4+3,none⟩=some (.int .i64 z):=(qad HB2.out).cell c3 (fun h=> h)
       clear HH HB2 c0 c1 c2 c3;go_wp2_with fail;go_roundg g
       case measure=> omega
       case rel=> exact ⟨p+1,z.toNat+q,by go_num,by go_num,by omega,by omega,HX,HB3⟩
 ·have ha1:(n:Int)≤(a:Int):=by omega
  have hb1:decide ((n:Int)≤(a:Int))=true:=decide_eq_true ha1
  have HX:=Qh (show endN L a= -1 from if_neg (by omega))
  have HB:=Qh (Below.refl w.heap.size w)
  clear hL;go_enter Tryz.func55,Tryz.ntmps55
  go_wp2_with fail;go_ret;exact ⟨by rw [HX.out];rfl,HB⟩
namespace Js
structure Pt where
 off:Nat
 cap:Nat
 row:List V
instance:Inhabited Pt:=⟨⟨0,0,[]⟩⟩
def Pt.enc (b:Nat) (p:Pt):Value:= .slice (some ⟨b,p.off,none⟩) p.row.length p.cap
def offP (P:List (List V)) (j:Nat):Nat:=(P.take j).flatten.length
def ptsOf (o c:Nat) (P:List (List V)):List Pt:=(List.range P.length).map fun j=> ⟨o+(1+offP P j)*4,c - (1+offP P j),P.getD j []⟩
theorem qde (o c:Nat) (P:List (List V)):(ptsOf o c P).length=P.length:=by simp [ptsOf]
theorem qir (o c:Nat) (P:List (List V)):(ptsOf o c P).map (·.row)=P:=by
 apply List.ext_getElem
 ·simp [ptsOf]
 ·intro i h1 h2
  simp only [ptsOf,List.map_map,List.getElem_map,List.getElem_range,Function.comp]
  rw [List.getD_eq_getElem?_getD,List.getElem?_eq_getElem h2];rfl
theorem ql6 (o c:Nat) (P:List (List V)) (j:Nat) (h:j < P.length):(ptsOf o c P)[j]'(by rw [qde];exact h)=⟨o+(1+offP P j)*4,c - (1+offP P j),P[j]⟩:=by
 simp only [ptsOf,List.getElem_map,List.getElem_range]
 rw [List.getD_eq_getElem?_getD,List.getElem?_eq_getElem h]
 rfl
def fillQ (b:Nat) (Q:List Pt) (k:Nat):List Value:=(Q.take k).map (Pt.enc b)++List.replicate (Q.length - k) (.slice none 0 0)
theorem qxi (b:Nat) (Q:List Pt) (k:Nat) (h:k≤Q.length):(fillQ b Q k).length=Q.length:=by
 rw [fillQ,List.length_append,List.length_map,List.length_take,List.length_replicate]
 omega
theorem qt8 (b:Nat) (Q:List Pt):fillQ b Q 0=List.replicate Q.length (.slice none 0 0):=by simp [fillQ]
theorem qwn (b:Nat) (Q:List Pt):fillQ b Q Q.length=Q.map (Pt.enc b):=by simp [fillQ]
theorem qvu (b:Nat) (Q:List Pt) (k:Nat) (h:k < Q.length):(fillQ b Q k).set k (Pt.enc b Q[k])=fillQ b Q (k+1):=by
 have h1:((Q.take k).map (Pt.enc b)).length=k:=by rw [List.length_map,List.length_take];omega
 rw [fillQ,fillQ,List.set_append_right _ _ (by omega),h1,Nat.sub_self,List.take_succ_eq_append_getElem h,List.map_append,List.append_assoc]
 congr 1
 rw [show Q.length - k=(Q.length - (k+1))+1 by omega,List.replicate_succ]
 rfl
end Js
structure RowsAt (w:World) (B b:Nat) (A:Option Addr) (n:Nat) (Q:List Pt):Prop where
 len:Q.length=n
 at_:0 < n→∃g,A=some ⟨g,0,none⟩∧B≤g∧Row w g 26 (Q.map (Pt.enc b))
 ins:∀p∈Q,0 < p.row.length∧ValsAt w (some ⟨b,p.off,none⟩) p.row.length p.cap p.row
theorem RowsAt.below {w w':World} {B b:Nat} {A:Option Addr} {n:Nat} {Q:List Pt} (h:RowsAt w B b A n Q) (hb:Below w.heap.size w w'):RowsAt w' B b A n Q:=
 ⟨h.len,fun h0=> by
  obtain ⟨g,e,hB,r⟩:=h.at_ h0
  exact ⟨g,e,hB,r.below hb r.lt⟩,fun p hp=> ⟨(h.ins p hp).1,(h.ins p hp).2.below hb⟩⟩
theorem qjm:∃i,Tryz.prog.info? 26=some i∧i.zero=some (.slice none 0 0)∧i.size=1∧i.bytes=24:=by
 have h:(Tryz.prog.info? 26).map (fun i=> (i.zero,i.size,i.bytes))=some (some (.slice none 0 0),1,24):=by kernel_rfl
 obtain ⟨i,hi,hz⟩:=Option.map_eq_some_iff.1 h
 simp only [Prod.mk.injEq]at hz
 exact ⟨i,hi,hz.1,hz.2.1,hz.2.2⟩
theorem qym (z:Value) (hz:z.cells=#[z]) (m:Nat):madeCells z.cells (m*1)=(List.replicate m z).toArray:=by
 apply Array.ext
 ·simp [madeCells]
 ·intro i h1 h2
  simp [madeCells,hz,Nat.mod_one]
theorem q18 (m:Nat) (hm:m≤250000) (W:World):(Instr.makeSlice 69 (.int .i64 (m:Int)) (.int .i64 (m:Int))).run Tryz.prog W= .ok (.slice (some ⟨W.heap.size,0,none⟩) m m) (W.alloc (.cells (List.replicate m (.slice none 0 0)).toArray 26)):=by
 obtain ⟨i,hi,hz,hs,hb⟩:=qjm
 have:=run_make W 69 26 i (.slice none 0 0) Tryz.underlying69 hi hz .i64 .i64 (m:Int) (m:Int) (by omega) (by omega) (by rw [hb];omega) (by omega)
 rw [hs,Int.toNat_natCast,qym _ rfl]at this
 exact this
theorem qqv (w:World) (b o n c:Nat) (v:V) (r:List V) (hL:ValsAt w (some ⟨b,o,none⟩) n c (v::r)) (hn:n≤250000) (he:grp v=true→0≤v.count∧∃k,endP r v.count.toNat=some k):
  Calls Tryz.prog 85 #[.slice (some ⟨b,o,none⟩) n c] w fun e w'=> ∃A m,e= .returned (.slice A m m)∧(A=none→m=0∧grp v=false)∧Hid (RowsAt w' w.heap.size b A m (ptsOf o c (ownParts v r))∧Below w.heap.size w w'∧∀g,A=some g→w.heap.size≤g.block∧g.block < w'.heap.size∧g=⟨g.block,0,none⟩):=by
 obtain ⟨c0,c1,c2,c3⟩:=hL.head
 have HH:=Qh (qku w v)
 have HL:=Qh hL
 have hlen:=hL.len
 have hcap:=hL.cap
 have hn0:(0:Int) < (n:Int):=by rw [List.length_cons]at hlen;omega
 cases hg:grp v with
 | false=>
  rw [hg]at HH
  have HP:=Qh (show ownParts v r=[]from by unfold ownParts;rw [hg];rfl)
  obtain ⟨k,key,t,z⟩:=v
  dsimp only [vv]at*
  clear he hL;go_enter Tryz.func85,Tryz.ntmps85
  go_wp2_with fail;refine HH.out.mono ?_
  rintro e w2 ⟨rfl,HB⟩;clear HH c0 c1 c2 c3;go_wp2_with fail;go_ret;exact ⟨none,0,rfl,fun _=> ⟨rfl,by first | exact hg | trivial⟩,Qh ⟨by rw [HP.out];exact ⟨rfl,fun h=> absurd h (by decide),fun p hp=> by cases hp⟩,HB.out,fun g h=> by cases h⟩⟩
 | true=>
  rw [hg]at HH
  obtain ⟨h0,k0,hk0⟩:=he hg
  obtain ⟨m,hm⟩:∃m:Nat,v.count=(m:Int):=⟨v.count.toNat,by omega⟩
  rw [hm,Int.toNat_natCast]at hk0
  have hP:ownParts v r=partsP m r:=by unfold ownParts;rw [hg,if_pos rfl,hm,Int.toNat_natCast]
  have hmk:m≤k0∧k0≤r.length:=qbz _ _ _ hk0
  have hin:=qed _ _ _ hk0
  have hat:=qv5 _ _ _ hk0
  rw [←hP]at hin hat
  clear hP;obtain ⟨hPl,hPf,hPe⟩:=hin
  have hnr:r.length+1=n:=by rw [←hlen,List.length_cons]
  have HJ:=Qh (fun j (hj:j < m)=> show ∃(x:Nat),((x:Int)=endN (v::r) (1+offP (ownParts v r) j))∧x=1+offP (ownParts v r) (j+1)∧1+offP (ownParts v r) j < x∧x≤n∧(∀(hj2:j < (ownParts v r).length),(ownParts v r)[j].length=x - (1+offP (ownParts v r) j)∧((v::r).drop (1+offP (ownParts v r) j)).take (x - (1+offP (ownParts v r) j))=(ownParts v r)[j])from by
   obtain ⟨g1,g2,g3⟩:=hat j (by omega)
   have g4:=qbz _ _ _ (hPe _ (List.getElem_mem (show j < (ownParts v r).length by omega)))
   have g5:=qbz _ _ _ g1
   rw [List.length_drop]at g5
   refine ⟨1+offP (ownParts v r) j+(ownParts v r)[j].length, ?_, ?_,by omega, ?_,fun _=> ⟨by omega, ?_⟩⟩
   ·unfold endN offP
    rw [if_pos (by rw [List.length_cons];omega),Nat.add_comm 1,List.drop_succ_cons,g1]
    show _=((((ownParts v r).take j).flatten.length+1:Nat):Int)+((ownParts v r)[j].length:Int)
    omega
   ·unfold offP
    rw [g3];omega
   ·unfold offP
    omega
   ·rw [show 1+offP (ownParts v r) j+(ownParts v r)[j].length - (1+offP (ownParts v r) j)=(ownParts v r)[j].length by omega,Nat.add_comm 1,List.drop_succ_cons]
    exact g2)
  have HPP:=Qh hPl
  have hmn:m≤250000:=by omega
  clear hat hPe hPf hk0 he;have HE:=Qh (fun wx (hb:Below w.heap.size w wx) a (ha:a≤1000000)=> qfm wx _ n c (v::r) (HL.out.below hb) hn a ha)
  have hmk2:=q18 m hmn
  have HQL:=Qh (show (ptsOf o c (ownParts v r)).length=m by rw [qde,hPl])
  have HPR:=Qh (qir o c (ownParts v r))
  have HQG:=Qh (fun j (hj:j < (ptsOf o c (ownParts v r)).length) (h2:j < (ownParts v r).length)=> show (ptsOf o c (ownParts v r))[j]=_ from ql6 o c (ownParts v r) j h2)
  have HQ0:=Qh (show offP (ownParts v r) 0=0 from rfl)
  clear hPl;generalize ownParts v r=P at*;obtain ⟨Q,hQ⟩:∃Q,Q=ptsOf o c P:=⟨_,rfl⟩
  rw [←hQ]at HQL HPR ⊢
  have HQQ:=Qh hQ
  clear hQ;have HINS:=Qh (fun wx (hb:Below w.heap.size w wx)=> show ∀p∈Q,0 < p.row.length∧ValsAt wx (some ⟨b,p.off,none⟩) p.row.length p.cap p.row from fun p hp=> by
   obtain ⟨j,hj,rfl⟩:=List.getElem_of_mem hp
   have hjm:j < m:=by rw [←HQL.out];exact hj
   have hjP:j < P.length:=by rw [HPP.out];exact hjm
   obtain ⟨x,hx1,hx2,hx3,hx4,hx5⟩:=HJ.out j hjm
   obtain ⟨y1,y2⟩:=hx5 hjP
   have hq:Q[j]=⟨o+(1+offP P j)*4,c - (1+offP P j),P[j]⟩:=by
    have:=HQG.out j (by rw [←HQQ.out];exact hj) hjP
    simp only [HQQ.out]
    exact this
   rw [hq];dsimp only
   refine ⟨by omega, ?_⟩
   have hs:=(HL.out.below hb).sub (i:=1+offP P j) (k:=x - (1+offP P j)) (by omega)
   rw [y2]at hs
   rw [y1];exact hs)
  have HENC:=Qh (fun j (hj:j < Q.length) (hjP:j < P.length)=> show Pt.enc b Q[j]= .slice (some ⟨b,o+(1+offP P j)*4,none⟩) P[j].length (c - (1+offP P j))from by
   have:=HQG.out j (by rw [←HQQ.out];exact hj) hjP
   have hq:Q[j]=⟨o+(1+offP P j)*4,c - (1+offP P j),P[j]⟩:=by
    simp only [HQQ.out]
    exact this
   rw [hq];rfl)
  clear HQG HQQ HPR;obtain ⟨k,key,t,z⟩:=v
  dsimp only at hm
  subst hm;dsimp only [vv]at*
  clear hL;go_enter Tryz.func85,Tryz.ntmps85
  go_wp2_with fail;refine HH.out.mono ?_
  rintro e w2 ⟨rfl,HB2⟩;have hB:=HB2.out
  have d3:w2.cell? ⟨b,o+3,none⟩=some (.int .i64 (m:Int)):=(qad hB).cell c3 (fun h=> h)
  have hsz2:=hB.size
  clear HH c0 c1 c2 c3 hB;go_wp2_with fail;have HG:=Qh hsz2
  generalize hGG:w2.heap.size=G at*;go_loopg [4,19] m (fun g va vk wx=> ∃j a:Nat,vk= .int .i64 (j:Int)∧va= .int .i64 (a:Int)∧j+g=m∧a≤1000000∧Hid (a=1+offP P j)∧Hid (Row wx G 26 (fillQ b Q j))∧Hid (Below w.heap.size w wx))
  case atStart=>
   refine ⟨0,1,rfl,rfl,by omega,by omega,Qh (by rw [HQ0.out]),Qh ?_,Qh (HB2.out.trans ((Below.refl _ _).alloc (by rw [hGG];exact HG.out) _))⟩
   rw [qt8,HQL.out,←hGG];exact Row.new _ _ _
  case round=>
   obtain ⟨j,a,rfl,rfl,hjg,ha9,HA,HR,HB⟩:=hrel
   cases gk with
   | zero=>
    obtain rfl:j=m:=by omega
    have hge:¬(j:Int) < (j:Int):=by omega
    have HX:=Qh (show RowsAt wr w.heap.size b (some ⟨G,0,none⟩) j Q∧G < wr.heap.size from ⟨⟨HQL.out,fun _=> ⟨G,rfl,HG.out,by rw [←qwn,HQL.out];exact HR.out⟩,HINS.out wr HB.out⟩,HR.out.lt⟩)
    clear HE HJ;go_wp2_with fail;go_ret;exact ⟨some ⟨G,0,none⟩,j,rfl,(fun h=> by cases h),Qh ⟨HX.out.1,HB.out,fun g h=> by cases h;exact ⟨HG.out,HX.out.2,rfl⟩⟩⟩
   | succ g=>
    have hj:j < m:=by omega
    obtain ⟨x,hx1,hx2,hx3,hx4,hx5⟩:=HJ.out j hj
    have HEN:=Qh (HE.out wr HB.out a ha9)
    rw [←HA.out]at hx1 hx3 hx5
    rw [←hx1]at HEN
    have hjm:(j:Int) < (m:Int):=by omega
    have ha0:(0:Int)≤(a:Int):=by omega
    have hax:(a:Int) < (x:Int):=by omega
    have hxn:(x:Int)≤(n:Int):=by omega
    have hxc:(x:Int)≤(c:Int):=by omega
    have HX5:=Qh hx5
    have HX2:=Qh hx2
    clear hx5 hx1 hx2 HE HJ;go_wp2_with fail;refine HEN.out.mono ?_
    rintro e w4 ⟨rfl,HB4⟩;have HR4:=Qh (HR.out.below HB4.out HR.out.lt)
    have hlq:j < (fillQ b Q j).length:=by rw [qxi _ _ _ (by have:=HQL.out;omega),HQL.out];exact hj
    obtain ⟨xx,cc⟩:∃xx,w4.cell? ⟨G,j,none⟩=some xx:=⟨_,HR4.out.cell (List.getElem?_eq_getElem hlq)⟩
    have ff:=HR4.out.frozen j
    clear HEN hlq;go_wp2_with fail;have hjQ:j < Q.length:=by rw [HQL.out];exact hj
    have hjP:j < P.length:=by rw [HPP.out];exact hj
    have HNX:=Qh (show Row (w4.setCell ⟨G,j,none⟩ (.slice (some ⟨b,o+a*4,none⟩) (x - a) (c - a))) G 26 (fillQ b Q (j+1))from by
     rw [←qvu b Q j hjQ,HENC.out j hjQ hjP,(HX5.out hjP).1,←HA.out];exact HR4.out.set j _)
    clear hjQ hjP;go_roundg g
    case measure=> omega
    case rel=>
     refine ⟨j+1,x,by go_num,rfl,by omega,by omega,HX2,HNX,Qh ?_⟩
     exact (HB.out.trans (HB4.out.mono HB.out.size)).setCell (p:=⟨G,j,none⟩) HG.out _
theorem qmb (w:World) (b o n c:Nat) (v:V) (r:List V) (hL:ValsAt w (some ⟨b,o,none⟩) n c (v::r)) (hn:n≤250000) (he:grp v=true→0≤v.count∧∃k,endP r v.count.toNat=some k):
  Calls Tryz.prog 85 #[.slice (some ⟨b,o,none⟩) n c] w fun e w'=> ∃A m,e= .returned (.slice A m m)∧(A=none→m=0)∧Hid (RowsAt w' w.heap.size b A m (ptsOf o c (ownParts v r))∧Below w.heap.size w w'):=
 (qqv w b o n c v r hL hn he).mono fun _ _ ⟨A,m,h1,h2,h3⟩=> ⟨A,m,h1,fun h=> (h2 h).1,Qh ⟨h3.out.1,h3.out.2.1⟩⟩
end Go.Proofs.YtgmangikcfakgaaGreatDoor
