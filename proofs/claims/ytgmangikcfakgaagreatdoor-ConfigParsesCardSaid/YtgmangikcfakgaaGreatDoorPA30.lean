import Derived.Test.YtgmangikcfakgaaGreatDoorPA29
set_option maxRecDepth 100000
set_option maxHeartbeats 40000000
namespace Go.Proofs.YtgmangikcfakgaaGreatDoor
open Go Sh
namespace Js
open Jt
inductive NR where
 | ok (key r:List UInt8)
 | err (c:Nat)
def nameR (ks:List (List UInt8)) (s:List UInt8):NR:=match unqF (skip s)with
 | none=> .err 3
 | some p=> if p.1∈ks then .err 7 else if [58].isPrefixOf (skip ((skip s).drop p.2))=true then .ok p.1 ((skip ((skip s).drop p.2)).drop 1) else .err 3
theorem q2z (ks:List (List UInt8)) (s:List UInt8) (f:List UInt8→List UInt8→Res):nameF ks s f=match nameR ks s with | .ok k r=> f k r | .err c=> .err c:=by
 unfold nameF nameR
 cases unqF (skip s)with
 | none=> rfl
 | some p=>
  dsimp only
  by_cases h:p.1∈ks
  ·rw [if_pos h,if_pos h]
  ·rw [if_neg h,if_neg h]
   cases hs:skip ((skip s).drop p.2)with
   | nil=> rfl
   | cons a r=>
    dsimp only
    by_cases h2:a=58
    ·subst h2
     rw [if_pos rfl,if_pos (qa7.2 ⟨r,rfl⟩)];rfl
    ·rw [if_neg h2,if_neg]
     intro h3;obtain ⟨r2,e⟩:=qa7.1 h3
     injection e with e _
     exact h2 e
theorem qzu {ks:List (List UInt8)} {s key r:List UInt8} (h:nameR ks s= .ok key r):validF key=true∧key∉ks∧r.length≤s.length:=by
 unfold nameR at h
 cases hu:unqF (skip s)with
 | none=> rw [hu]at h;cases h
 | some p=>
  rw [hu]at h
  dsimp only at h
  split at h
  ·cases h
  next hno=>
   split at h
   ·injection h with h1 h2
    subst h1 h2;obtain ⟨x,k⟩:=p
    refine ⟨(qfe hu).1,hno, ?_⟩
    have h1:=qba ((skip s).drop k)
    have h2:=qba s
    rw [List.length_drop]at h1 ⊢
    dsimp only
    omega
   ·cases h
theorem qxg {ks names:List (List UInt8)} (h:∀k,k∈names↔k∈ks) (s:List UInt8):nameR names s=nameR ks s:=by
 unfold nameR
 cases unqF (skip s)with
 | none=> rfl
 | some p=>
  dsimp only
  by_cases h1:p.1∈ks
  ·rw [if_pos h1,if_pos ((h _).2 h1)]
  ·rw [if_neg h1,if_neg (fun h2=> h1 ((h _).1 h2))]
def memN (n:Nat) (P:List (List V)) (j:Nat):Nat:=n+1+(P.take j).flatten.length
theorem qu6 {L0:List V} {kv:V} {d:Nat} {o:Bool} {ks:List (List UInt8)} {P:List (List V)} (h:Parts d o ks P) (L:List V) (hL:L=L0++kv::P.flatten) (j:Nat) (hj:j < P.length) (q:Nat) (hq:q=memN L0.length P j):
  ∃(hm:q < L.length) (z:Nat),ks[j]? =some L[q].key∧endW (L.drop q) 1=some z∧q+z=memN L0.length P (j+1):=by
 subst hq
 obtain ⟨v,l1,t1,x,h1,h2,h3,h4⟩:=qyt h j (by rw [←h.len];exact hj)
 have hd:L.drop (memN L0.length P j)=v::(l1++x):=by
  rw [hL,memN,Nat.add_assoc,List.drop_append,List.drop_eq_nil_of_le (Nat.le_add_right _ _),List.nil_append,Nat.add_sub_cancel_left,Nat.add_comm,List.drop_succ_cons,h1]
 have hm:memN L0.length P j < L.length:=by
  have:=congrArg List.length hd
  rw [List.length_drop,List.length_cons]at this
  omega
 refine ⟨hm,l1.length+1, ?_, ?_, ?_⟩
 ·rw [h3]
  congr 2
  rw [List.drop_eq_getElem_cons hm]at hd
  injection hd with hd _
  exact hd.symm
 ·rw [hd]
  exact qe1 h2 x
 ·rw [memN,memN,h4]
  omega
theorem q1l {L0:List V} {kv:V} {P:List (List V)} (L:List V) (hL:L=L0++kv::P.flatten):memN L0.length P P.length=L.length:=by
 rw [hL,memN,List.take_length,List.length_append,List.length_cons]
 omega
theorem Parts.snoc {d:Nat} {o:Bool} {ks:List (List UInt8)} {P:List (List V)} (h:Parts d o ks P) {v:V} {l:List V} {t:List UInt8} (h1:One d o v l t):Parts d o (ks++[v.key]) (P++[v::l]):=by
 induction h with
 | nil=> exact .cons h1 .nil
 | cons h2 _ ih=> exact .cons h2 ih
def kidR (kd:Int) (key:List UInt8) (n:Nat) (l:List V) (x:Res):Res:=x.bind fun m l2 r=> .ok 1 (⟨kd,key,[],((n+m:Nat):Int)⟩::(l++l2)) r
theorem qnj (g:Nat) (o:Bool) (d c:Nat) (ks:List (List UInt8)) (s:List UInt8):kids g o d c ks (skip s)=kids g o d c ks s:=by
 cases g with
 | zero=> rfl
 | succ g=> rw [qc3,qc3,qqw]
theorem qko {o:Bool} {K:List UInt8→Res} {kind:Int} {key s:List UInt8} (hK:K (skip s)=K s):
  groupF K kind key (close o) s=if [close o].isPrefixOf (skip s)=true then .ok 1 [⟨kind,key,[],0⟩] ((skip s).drop 1) else kidR kind key 0 [] (K (skip s)):=by
 have e:∀x:Res,kidR kind key 0 [] x=x.bind fun n l r=> .ok 1 (⟨kind,key,[],n⟩::l) r:=fun x=> by
  cases x with
  | err c=> rfl
  | ok m l r=> show Res.ok 1 (⟨kind,key,[],((0+m:Nat):Int)⟩::([]++l)) r=_;rw [Nat.zero_add];rfl
 rw [e,hK]
 unfold groupF
 cases hs:skip s with
 | nil=> rfl
 | cons a r=>
  dsimp only
  by_cases h:a=close o
  ·subst h
   rw [if_pos rfl,if_pos (qa7.2 ⟨r,rfl⟩)];rfl
  ·rw [if_neg h,if_neg]
   intro h3;obtain ⟨r2,e⟩:=qa7.1 h3
   injection e with e _
   exact h e
def nmR (o:Bool) (ks:List (List UInt8)) (s:List UInt8):NR:=if o=true then nameR ks s else .ok [] s
theorem qgd (g:Nat) (o:Bool) (d c:Nat) (ks:List (List UInt8)) (s:List UInt8):kids (g+1) o d c ks s=match nmR o ks s with
  | .ok key s1=> (valF g key d c s1).bind fun n l r=> nextF o r n l fun r2=> kids g o d (c+l.length) (key::ks) r2
  | .err e=> .err e:=by
 rw [kids]
 unfold nmR valF
 cases o with
 | true=> rw [if_pos rfl,if_pos rfl,q2z]
 | false=> rw [if_neg (by decide),if_neg (by decide)]
theorem qhz {g:Nat} {key s:List UInt8} {d c n:Nat} {l:List V} {r:List UInt8} {o:Bool} (ho:o=false→key=[]) (hv:validF key=true) (h:valF g key d c s= .ok n l r):
  n=1∧r.length < s.length∧c+l.length≤5000∧∃v l2 t,l=v::l2∧v.key=key∧One d o v l2 t:=by
 have hK:KOk (fun o2=> kids g o2 (d+1) (c+1) []) (d+1) (c+1):=fun o2 s n l r hx=> by
  obtain ⟨K,t,h1,_,h3,h4,h5⟩:=qgl _ _ _ _ _ _ _ _ _ hx
  exact ⟨K,t,h1,h3,fun e=> (h4 e).1,h5⟩
 obtain ⟨h1,v,l2,t,h2,h3,h4,h5⟩:=qfs hK ho hv h
 exact ⟨h1,qll (fun o s n l r hk=> Nat.le_of_lt (qpw _ _ _ _ _ _ _ _ _ hk)) h,h5,v,l2,t,h2,h3,h4⟩
section
variable {g n:Nat} {o:Bool} {d c:Nat} {kd:Int} {key:List UInt8} {ks:List (List UInt8)} {s s1 k1:List UInt8} {l l1:List V} {r:List UInt8} {e:Nat}
theorem qz1 (h:nmR o ks s= .err e):kidR kd key n l (kids (g+1) o d c ks s)= .err e:=by
 rw [qgd,h]
 rfl
theorem qsa (h:nmR o ks s= .ok k1 s1) (h2:valF g k1 d c s1= .err e):kidR kd key n l (kids (g+1) o d c ks s)= .err e:=by
 rw [qgd,h]
 dsimp only
 rw [h2]
 rfl
theorem qmx (h:nmR o ks s= .ok k1 s1) (h2:valF g k1 d c s1= .ok 1 l1 r) (h3:[close o].isPrefixOf (skip r)=true):kidR kd key n l (kids (g+1) o d c ks s)= .ok 1 (⟨kd,key,[],((n+1:Nat):Int)⟩::(l++l1)) ((skip r).drop 1):=by
 rw [qgd,h]
 dsimp only
 obtain ⟨q,hq⟩:=qa7.1 h3
 rw [h2,Res.bind_ok,nextF,hq]
 dsimp only
 rw [if_pos rfl]
 rfl
theorem qoe (h:nmR o ks s= .ok k1 s1) (h2:valF g k1 d c s1= .ok 1 l1 r) (h3:[close o].isPrefixOf (skip r)=false) (h4:[44].isPrefixOf (skip r)=false):kidR kd key n l (kids (g+1) o d c ks s)= .err 3:=by
 rw [qgd,h]
 dsimp only
 rw [h2,Res.bind_ok,nextF]
 cases hs:skip r with
 | nil=> rfl
 | cons a q=>
  dsimp only
  rw [hs]at h3 h4
  rw [if_neg,if_neg]
  ·rfl
  ·rintro rfl
   rw [qa7.2 ⟨q,rfl⟩]at h4
   cases h4
  ·rintro rfl
   rw [qa7.2 ⟨q,rfl⟩]at h3
   cases h3
theorem q0t (h:nmR o ks s= .ok k1 s1) (h2:valF g k1 d c s1= .ok 1 l1 r) (h3:[close o].isPrefixOf (skip r)=false) (h4:[44].isPrefixOf (skip r)=true):
  kidR kd key n l (kids (g+1) o d c ks s)=kidR kd key (n+1) (l++l1) (kids g o d (c+l1.length) (k1::ks) ((skip r).drop 1)):=by
 rw [qgd,h]
 dsimp only
 obtain ⟨q,hq⟩:=qa7.1 h4
 have hc:¬44=close o:=by
  rintro hc;rw [hq,hc,qa7.2 ⟨q,rfl⟩]at h3
  cases h3
 rw [h2,Res.bind_ok,nextF,hq]
 dsimp only
 rw [if_neg hc,if_pos rfl,List.drop_one,List.tail_cons]
 cases kids g o d (c+l1.length) (k1::ks) q with
 | err e=> rfl
 | ok m l2 r2=>
  show Res.ok 1 (⟨kd,key,[],((n+(1+m):Nat):Int)⟩::(l++(l1++l2))) r2=Res.ok 1 (⟨kd,key,[],((n+1+m:Nat):Int)⟩::(l++l1++l2)) r2
  rw [Nat.add_assoc,List.append_assoc]
end
end Js
end Go.Proofs.YtgmangikcfakgaaGreatDoor
namespace Go.Proofs.YtgmangikcfakgaaGreatDoor
open Go.RowKit Sh Jt Js
theorem qy5 {L:List V} {q m g:Nat} (h:endW (L.drop q) m=some (g+1)):∃hq:q < L.length,0 < m∧0≤L[q].count∧L[q].count.toNat≤L.length∧m - 1+L[q].count.toNat≤L.length∧endW (L.drop (q+1)) (m - 1+L[q].count.toNat)=some g:=by
 cases m with
 | zero=>
  rw [qnu]at h
  cases h
 | succ m=>
  have hq:q < L.length:=by
   have:=(qim _ _ _ h).2
   rw [List.length_drop]at this
   omega
  rw [List.drop_eq_getElem_cons hq,endW]at h
  split at h
  ·cases h
  next hc=>
   obtain ⟨k,hk,e⟩:=Option.map_eq_some_iff.1 h
   obtain rfl:k=g:=by omega
   have h2:=qim _ _ _ hk
   rw [List.length_drop]at h2
   exact ⟨hq,Nat.succ_pos _,by omega,by omega,by omega,hk⟩
theorem q0o {L:List V} {q m:Nat} (h:endW (L.drop q) m=some 0):m=0:=Nat.le_zero.1 (qim _ _ _ h).1
theorem qlq (w:World) (A:Option Addr) (c:Nat) (L:List V) (hL:ValsAt w A L.length c L) (hn:L.length≤250000) (a k:Nat) (ha:a < L.length) (hk:endW (L.drop a) 1=some k):
  Calls Tryz.prog 69 #[.slice A L.length c, .int .i64 (a:Int)] w fun e w'=> e= .returned (.int .i64 ((a+k:Nat):Int))∧Hid (Below w.heap.size w w'):=by
 have HL:=Qh hL
 have HK:=Qh hk
 have ha0:¬(a:Int) < 0:=by omega
 have ha1:¬(L.length:Int)≤(a:Int):=by omega
 have hd1:decide ((L.length:Int)≤(a:Int))=false:=decide_eq_false ha1
 have hd2:decide (L.length≤a)=false:=decide_eq_false (by omega)
 clear hL hk
 go_enter Tryz.func69,Tryz.ntmps69
 go_wp2_with fail
 go_loopg [1,5] k (fun g v1 v5 wx=> ∃q m:Nat,v1= .int .i64 (q:Int)∧v5= .int .i64 (m:Int)∧q+g=a+k∧m≤250000∧Hid (endW (L.drop q) m=some g)∧Hid (Below w.heap.size w wx))
 case atStart=> exact ⟨a,1,rfl,rfl,rfl,by omega,HK,Qh (Below.refl _ _)⟩
 case round=>
  clear HK;obtain ⟨q,m,rfl,rfl,hqg,hm9,HQ,HB⟩:=hrel
  cases gk with
  | zero=>
   obtain rfl:=q0o HQ.out
   obtain rfl:q=a+k:=by omega
   go_wp2_with fail;go_ret;exact ⟨rfl,HB⟩
  | succ g=>
   obtain ⟨hq,h0,h1,h2,h3,h4⟩:=qy5 HQ.out
   obtain ⟨b,o,rfl,hbl,_⟩:=HL.out.at_ (by omega)
   obtain ⟨x0,x1,x2,x3⟩:=(HL.out.below HB.out).cells hq
   have HN:=Qh h4
   have hbw:=HB.out.size
   obtain ⟨z,hz⟩:∃z:Nat,L[q].count=(z:Int):=⟨L[q].count.toNat,by omega⟩
   rw [hz]at x3 HN h2 h3
   rw [Int.toNat_natCast]at HN h2 h3
   have f1:(0:Int) < (m:Int):=by omega
   have f2:¬(L.length:Int)≤(q:Int):=by omega
   have f3:decide ((L.length:Int)≤(q:Int))=false:=decide_eq_false f2
   have f4:¬(z:Int) < 0:=by omega
   have f5:¬(L.length:Int) < (z:Int):=by omega
   have f6:decide ((L.length:Int) < (z:Int))=false:=decide_eq_false f5
   have f7:(q:Int) < (L.length:Int):=by omega
   clear h4 hz HQ h1;go_wp2_with fail;go_roundg g
   case measure=> omega
   case rel=> exact ⟨q+1,m - 1+z,by go_num,by go_num,by omega,by omega,HN,HB⟩
def MemPost (b:Nat) (s:List UInt8) (v:Value) (L:List V) (w:World) (R:NR) (e:Ending) (w':World):Prop:=
 match R with
 | .ok key r=> e= .returned (.tuple #[.string (sb key), .bool true])∧Hid (RR w' b s r v L 0∧Stp w w' b v v)
 | .err c=> e= .returned (.tuple #[.string ⟨#[]⟩, .bool false])∧c≠0∧∃u',Hid (RR w' b s u' v L (c:Nat)∧Stp w w' b v v)
theorem q2u {ks:List (List UInt8)} {key:List UInt8} (h:∀i,i < ks.length→ks[i]? ≠some key):key∉ks:=fun hm=> by
 obtain ⟨i,hi,e⟩:=List.getElem_of_mem hm
 exact h i hi (by rw [List.getElem?_eq_getElem hi,e])
theorem qul (w:World) (b:Nat) (s u:List UInt8) (v:Value) (L0:List V) (kv:V) (ks:List (List UInt8)) (P:List (List V)) (d:Nat) (h:RR w b s u v (L0++kv::P.flatten) 0) (hs:s.length≤1000000000) (hP:Parts d true ks P) (hl:(L0++kv::P.flatten).length≤5000):
  Calls Tryz.prog 140 #[.pointer (some ⟨b,0,none⟩), .int .i64 (L0.length:Int)] w (MemPost b s v (L0++kv::P.flatten) w (nameR ks u)):=by
 obtain ⟨L,hL⟩:∃L,L=L0++kv::P.flatten:=⟨_,rfl⟩
 have HMA:=Qh (fun j hj q hq=> qu6 hP L hL j hj q hq)
 have HME:=Qh (q1l L hL)
 have HM0:=Qh (show ((memN L0.length P 0:Nat):Int)=(L0.length:Int)+1 by unfold memN;rw [List.take_zero,List.flatten_nil,List.length_nil];omega)
 have HPL:=Qh hP.len
 have hL1:0 < L.length:=by rw [hL,List.length_append,List.length_cons];omega
 have hln:L0.length≤5000:=by rw [List.length_append]at hl;omega
 rw [←hL]at h hl ⊢
 clear hP hL
 have HT:=Qh (js_rtext' h hs)
 obtain ⟨g2,cc,rfl, -, -, -⟩:=h.own.got hL1
 clear h
 unfold nameR
 generalize skip u=u1 at*
 cases hu:unqF u1 with
 | none=>
  rw [hu]at HT
  unfold txtV textR at HT;dsimp only at HT
  clear hu HMA HME HM0 HPL;show Calls _ _ _ _ (MemPost _ _ _ _ _ (.err 3))
  go_enter Tryz.func140,Tryz.ntmps140
  go_wp2_with fail;refine HT.out.mono ?_
  rintro en w1 ⟨rfl,HX⟩;have HF:=Qh (js_rfail' 3 HX.out.1)
  clear HT;go_wp2_with fail;refine HF.out.mono ?_
  rintro en w2 ⟨rfl,HY⟩;clear HF;go_wp2_with fail;go_ret2;exact ⟨rfl,by decide,_,Qh ⟨HY.out.1,HX.out.2.trans HY.out.2⟩⟩
 | some p=>
  obtain ⟨key,m⟩:=p
  rw [hu]at HT
  unfold txtV textR at HT;dsimp only at HT ⊢
  clear hu;generalize u1.drop m=u2 at*;obtain ⟨R,hR⟩:∃R,R=(if key∈ks then NR.err 7 else if [58].isPrefixOf (skip u2)=true then NR.ok key ((skip u2).drop 1) else NR.err 3):=⟨_,rfl⟩
  rw [←hR];have HR:=Qh hR
  clear hR;have hll:(L.length:Int)≤5000:=by omega
  go_enter Tryz.func140,Tryz.ntmps140
  go_wp2_with fail;refine HT.out.mono ?_
  rintro en w1 ⟨rfl,HX⟩;clear HT;go_wp2_with fail;go_loopg [8] P.length (fun g v8 wx=> ∃j q:Nat,j+g=P.length∧q=memN L0.length P j∧v8= .int .i64 (q:Int)∧Hid (∀i,i < j→ks[i]? ≠some key)∧Hid (RR wx b s u2 (.slice (some ⟨g2,0,none⟩) L.length cc) L 0∧Stp w wx b (.slice (some ⟨g2,0,none⟩) L.length cc) (.slice (some ⟨g2,0,none⟩) L.length cc)))
  case atStart=> exact ⟨0,_,Nat.zero_add _,rfl,by rw [HM0.out],Qh (fun i h=> absurd h (Nat.not_lt_zero _)),HX⟩
  case round=>
   clear HX HM0;obtain ⟨j,q,hjg,hq,rfl,HK,HX⟩:=hrel
   have HQ:=Qh hq
   obtain ⟨c2,ff⟩:=HX.out.1.cell2
   cases gk with
   | zero=>
    obtain rfl:j=P.length:=by omega
    obtain rfl:q=L.length:=by rw [hq];exact HME.out
    clear hq hjg HQ HME HMA;have hno:key∉ks:=q2u (fun i hi=> HK.out i (by rw [HPL.out];exact hi))
    have HS:=Qh (js_rsign' [58] HX.out.1 hs (by decide))
    rw [if_neg hno]at HR
    clear hno HK HPL;cases hpre:[58].isPrefixOf (skip u2)with
    | true=>
     rw [hpre,if_pos rfl]at HR HS
     clear hpre;change Hid (Calls _ _ #[_, .string ⟨#[58]⟩] _ _)at HS
     have HRR:=Qh HR.out
     clear HR;go_wp2_with fail;refine HS.out.mono ?_
     rintro en w2 ⟨rfl,HY⟩;clear HS;go_wp2_with fail;go_ret2;rw [HRR.out];exact ⟨rfl,Qh ⟨HY.out.1,HX.out.2.trans HY.out.2⟩⟩
    | false=>
     rw [hpre,if_neg (by decide)]at HR HS
     clear hpre;change Hid (Calls _ _ #[_, .string ⟨#[58]⟩] _ _)at HS
     have HRR:=Qh HR.out
     clear HR;go_wp2_with fail;refine HS.out.mono ?_
     rintro en w2 ⟨rfl,HY⟩;have HF:=Qh (js_rfail' 3 HY.out.1)
     clear HS;go_wp2_with fail;refine HF.out.mono ?_
     rintro en w3 ⟨rfl,HZ⟩;clear HF;go_wp2_with fail;go_ret2;rw [HRR.out];exact ⟨rfl,by decide,_,Qh ⟨HZ.out.1,HX.out.2.trans (HY.out.2.trans HZ.out.2)⟩⟩
   | succ g=>
    have hj:j < P.length:=by omega
    obtain ⟨hm,z,hk1,hk2,hk3⟩:=HMA.out j hj q hq
    have HOV:=Qh HX.out.1.own.at_.1
    obtain ⟨x0,x1,x2,x3⟩:=HOV.out.cells hm
    rw [Nat.zero_add]at x1
    have HK1:=Qh hk1
    have HK3:=Qh hk3
    have f1:(q:Int) < (L.length:Int):=by omega
    have f2:¬(L.length:Int)≤(q:Int):=by omega
    have f3:(0:Int)≤(q:Int):=by omega
    by_cases he:L[q].key=key
    ·have hin:key∈ks:=by
      obtain ⟨hj2,e2⟩:=List.getElem?_eq_some_iff.1 hk1
      rw [←he,←e2];exact List.getElem_mem _
     rw [if_pos hin]at HR
     rw [he]at x1
     have HF:=Qh (js_rfail' 7 HX.out.1)
     clear hin he hq hk1 hk2 hk3 HK1 HK3 HMA HME HPL HK HQ x0 x2 x3 HOV;generalize sb key=K at*;go_wp2_with fail;refine HF.out.mono ?_
     rintro en w2 ⟨rfl,HY⟩;clear HF;go_wp2_with fail;go_ret2;rw [HR.out];exact ⟨rfl,by decide,_,Qh ⟨HY.out.1,HX.out.2.trans HY.out.2⟩⟩
    ·have hb1:((sb L[q].key).toList==(sb key).toList)=false:=by rw [qab,qab];exact beq_eq_false_iff_ne.2 he
     have HNK:=Qh (show ∀i,i < j+1→ks[i]? ≠some key from fun i hi e=> by
      by_cases hij:i=j
      ·subst hij
       rw [hk1]at e
       exact he (Option.some.inj e)
      ·exact HK.out i (by omega) e)
     have HEN:=Qh (qlq wr _ cc L HOV.out (by omega) q z hm hk2)
     have hqz:q+z≤L.length:=by
      have:=(qim _ _ _ hk2).2
      rw [List.length_drop]at this
      omega
     rw [hk3]at HEN hqz
     clear he hq hk1 hk2 hk3 HK1 HMA HME HK HQ x0 x2 x3 HK3;generalize hq2:memN L0.length P (j+1)=q2 at*;generalize sb L[q].key=K1 at*;generalize sb key=K at*;go_wp2_with fail;refine HEN.out.mono ?_
     rintro en w2 ⟨rfl,HB⟩;clear HEN;go_wp2_with fail;go_roundg g
     case measure=> omega
     case rel=> exact ⟨j+1,q2,by omega,hq2.symm,rfl,HNK,Qh ⟨HX.out.1.below HB.out,HX.out.2.trans (Stp.of_below HB.out _ _)⟩⟩
end Go.Proofs.YtgmangikcfakgaaGreatDoor
namespace Go.Proofs.YtgmangikcfakgaaGreatDoor
open Go.RowKit Sh Jt Js
def RVPost (b:Nat) (s:List UInt8) (v:Value) (L:List V) (w:World) (R:Res) (e:Ending) (w':World):Prop:=
 match R with
 | .ok _ l r=> e= .returned (.bool true)∧∃v',Hid (RR w' b s r v' (L++l) 0∧Stp w w' b v v')
 | .err c=> e= .returned (.bool false)∧c≠0∧∃u' v' L',Hid (RR w' b s u' v' L' (c:Nat)∧Stp w w' b v v')
def RValP (g:Nat):Prop:=∀(w:World) (b:Nat) (s u:List UInt8) (v:Value) (L:List V) (d:Nat) (key:List UInt8),RR w b s u v L 0→u.length≤g→s.length≤1000000000→L.length≤5000→d≤50→
 Calls Tryz.prog 63 #[.pointer (some ⟨b,0,none⟩), .string (sb key), .int .i64 (d:Int)] w (RVPost b s v L w (valF g key d L.length u))
def kdF (o:Bool):Int:=if o=true then 6 else 5
structure KS (w:World) (b:Nat) (s:List UInt8) (v:Value) (L0:List V) (kd:Int) (key:List UInt8) (o:Bool) (d F:Nat) (R:Res) (g:Nat) (ks:List (List UInt8)) (P:List (List V)) (u:List UInt8) (vx:Value) (wx:World):Prop where
 st:RR wx b s u vx (L0++⟨kd,key,[],(P.length:Int)⟩::P.flatten) 0
 step:Stp w wx b v vx
 parts:Parts (d+1) o ks P
 res:R=kidR kd key P.length P.flatten (kids g o (d+1) (L0++⟨kd,key,[],(P.length:Int)⟩::P.flatten).length ks.reverse u)
 fuel:u.length < g
 few:(L0++⟨kd,key,[],(P.length:Int)⟩::P.flatten).length≤5000
 le:g≤F
theorem qei (o:Bool) (ks:List (List UInt8)) (s:List UInt8):nmR o ks.reverse s=nmR o ks s:=by
 unfold nmR
 rw [qxg (ks:=ks) (names:=ks.reverse) (fun k=> List.mem_reverse)]
theorem qfl {o:Bool} {ks:List (List UInt8)} {s key r:List UInt8} (h:nmR o ks s= .ok key r):(o=false→key=[])∧validF key=true∧r.length≤s.length:=by
 unfold nmR at h
 cases o with
 | true=>
  rw [if_pos rfl]at h
  obtain ⟨h1,_,h3⟩:=qzu h
  exact ⟨(fun e=> by cases e),h1,h3⟩
 | false=>
  rw [if_neg (by decide)]at h
  injection h with h1 h2
  subst h1 h2;exact ⟨fun _=> rfl,qa8,Nat.le_refl _⟩
theorem qnc {d:Nat} {o:Bool} {ks:List (List UInt8)} {P:List (List V)} (h:Parts d o ks P):P.length≤P.flatten.length:=by
 induction h with
 | nil=> exact Nat.le_refl _
 | cons h r ih=> rw [List.length_cons,List.flatten_cons,List.length_append,List.length_cons];omega
section
variable {w wx w1:World} {b:Nat} {s u:List UInt8} {v vx:Value} {L L0:List V} {e:Int} {kd:Int} {key:List UInt8} {o:Bool} {d F g:Nat} {R:Res} {ks:List (List UInt8)} {P:List (List V)}
theorem RR.count {n c:Nat} {gb:Nat} (h:RR w b s u (.slice (some ⟨gb,0,none⟩) n c) L e) {i:Nat} (hi:i < L.length) (z:Int):
  RR (w.setCell ⟨gb,i*4+3,none⟩ (.int .i64 z)) b s u (.slice (some ⟨gb,0,none⟩) n c) (L.set i ⟨L[i].kind,L[i].key,L[i].text,z⟩) e∧Stp w (w.setCell ⟨gb,i*4+3,none⟩ (.int .i64 z)) b (.slice (some ⟨gb,0,none⟩) n c) (.slice (some ⟨gb,0,none⟩) n c):=by
 obtain ⟨p,hp,hu,h0⟩:=h
 have hg:=(h0.own.block (k:=gb) rfl).1
 have o1:=h0.own.set (i:=i) (j:=3) hi (by decide) (x:= .int .i64 z) (v:=⟨L[i].kind,L[i].key,L[i].text,z⟩) rfl
 exact ⟨⟨p,hp,hu,h0.row.other (a:=⟨gb,i*4+3,none⟩) (by show b≠gb;omega) _,o1⟩,⟨(Kept.refl _ _).setCell (a:=⟨gb,i*4+3,none⟩) (.inr (.inr rfl)) _,fun _ h=> .inl h⟩⟩
theorem qlm (L0:List V) (x:V) (l:List V):L0.length < (L0++x::l).length:=by
 rw [List.length_append,List.length_cons]
 omega
theorem qy9 (L0:List V) (x y:V) (P:List (List V)) (l1:List V):((L0++x::P.flatten)++l1).set L0.length y=L0++y::(P++[l1]).flatten:=by
 rw [List.append_assoc,List.cons_append,List.set_append_right _ _ (Nat.le_refl _),Nat.sub_self,List.flatten_append]
 simp
theorem KS.grown {n c gb:Nat} {l1:List V} (h:RR w b s u (.slice (some ⟨gb,0,none⟩) n c) ((L0++⟨kd,key,[],(P.length:Int)⟩::P.flatten)++l1) 0):
  RR (w.setCell ⟨gb,L0.length*4+3,none⟩ (.int .i64 ((P.length:Int)+1))) b s u (.slice (some ⟨gb,0,none⟩) n c) (L0++⟨kd,key,[],((P++[l1]).length:Int)⟩::(P++[l1]).flatten) 0∧
   Stp w (w.setCell ⟨gb,L0.length*4+3,none⟩ (.int .i64 ((P.length:Int)+1))) b (.slice (some ⟨gb,0,none⟩) n c) (.slice (some ⟨gb,0,none⟩) n c):=by
 have hi:L0.length < ((L0++⟨kd,key,[],(P.length:Int)⟩::P.flatten)++l1).length:=by
  rw [List.length_append];have:=qlm L0 ⟨kd,key,[],(P.length:Int)⟩ P.flatten
  omega
 have hg:((L0++⟨kd,key,[],(P.length:Int)⟩::P.flatten)++l1)[L0.length]=⟨kd,key,[],(P.length:Int)⟩:=by simp
 have:=h.count hi ((P.length:Int)+1)
 rw [hg,qy9]at this
 rw [List.length_append,List.length_singleton]
 exact this
theorem KS.start (h:RR w1 b s (skip u) v (L0++[⟨kd,key,[],0⟩]) 0) (k:Stp w w1 b v v) (hp:[close o].isPrefixOf (skip u)=false) (hu:u.length < F) (hL:L0.length < 5000):
  KS w b s v L0 kd key o d F (groupF (fun s=> kids F o (d+1) (L0.length+1) [] s) kd key (close o) u) F [] [] (skip u) v w1:=by
 refine ⟨h,k, .nil, ?_,Nat.lt_of_le_of_lt (qba u) hu, ?_,Nat.le_refl _⟩
 ·rw [qko (qnj _ _ _ _ _ _),if_neg (by rw [hp];decide),List.length_append]
  rfl
 ·rw [List.length_append]
  show L0.length+1≤5000
  omega
theorem KS.more {k1 s1 r:List UInt8} {v1:V} {l2:List V} {v':Value} (h:KS w b s v L0 kd key o d F R (g+1) ks P u vx wx) (hn:nmR o ks u= .ok k1 s1) (hv:valF g k1 (d+1) (L0++⟨kd,key,[],(P.length:Int)⟩::P.flatten).length s1= .ok 1 (v1::l2) r)
  (h3:[close o].isPrefixOf (skip r)=false) (h4:[44].isPrefixOf (skip r)=true) (st:RR w1 b s ((skip r).drop 1) v' (L0++⟨kd,key,[],((P++[v1::l2]).length:Int)⟩::(P++[v1::l2]).flatten) 0) (k:Stp w w1 b v v'):
  KS w b s v L0 kd key o d F R g (ks++[k1]) (P++[v1::l2]) ((skip r).drop 1) v' w1:=by
 obtain ⟨n1,n2,n3⟩:=qfl hn
 obtain ⟨_,f2,f3,v2,l3,t,f4,f5,f6⟩:=qhz n1 n2 hv
 injection f4 with f4 f4'
 subst f4 f4'
 have hfu:=h.fuel
 have hfw:=h.few
 have hle:=h.le
 have hsk:=qba r
 have el:(L0++⟨kd,key,[],((P++[v1::l2]).length:Int)⟩::(P++[v1::l2]).flatten).length=(L0++⟨kd,key,[],(P.length:Int)⟩::P.flatten).length+(v1::l2).length:=by
  simp only [List.length_append,List.length_cons,List.flatten_append,List.flatten_cons,List.flatten_nil,List.append_nil]
  omega
 have ep:(P++[v1::l2]).length=P.length+1:=by rw [List.length_append,List.length_singleton]
 have ef:(P++[v1::l2]).flatten=P.flatten++(v1::l2):=by rw [List.flatten_append,List.flatten_cons,List.flatten_nil,List.append_nil]
 refine ⟨st,k,by rw [←f5];exact h.parts.snoc f6, ?_, ?_, ?_,by omega⟩
 ·rw [h.res,el,ef,ep,q0t (n:=P.length) (l:=P.flatten) ((qei o ks u).trans hn) hv h3 h4,List.reverse_append]
  rfl
 ·rw [List.length_drop]
  obtain ⟨q,hq⟩:=qa7.1 h4
  rw [hq,List.length_cons]at hsk ⊢
  omega
 ·rw [el]
  exact f3
end
theorem qpb (F:Nat) (hV:∀g,g < F→RValP g) (w:World) (b:Nat) (s u:List UInt8) (v:Value) (L0:List V) (key:List UInt8) (o:Bool) (d:Nat) (h:RR w b s u v (L0++[⟨kdF o,key,[],0⟩]) 0) (hs:s.length≤1000000000) (hu:u.length < F) (hL0:L0.length < 5000) (hd:d < 50):
  Calls Tryz.prog 103 #[.pointer (some ⟨b,0,none⟩), .int .i64 (L0.length:Int), .int .i64 (d:Int), .string (sb [close o])] w (RVPost b s v L0 w (groupF (fun s=> kids F o (d+1) (L0.length+1) [] s) (kdF o) key (close o) u)):=by
 have HS0:=Qh (js_rsign' [close o] h hs (by rw [List.length_singleton];decide))
 have HVV:=Qh hV
 have HEW:=Qh (fun (W:World) (x:List UInt8) (vx:Value) (M:List V) (k:RR W b s x vx M 0)=> js_rsign' [close o] k hs (by rw [List.length_singleton];decide))
 have HCW:=Qh (fun (W:World) (x:List UInt8) (vx:Value) (M:List V) (k:RR W b s x vx M 0)=> show Calls Tryz.prog 100 #[.pointer (some ⟨b,0,none⟩), .string ⟨#[44]⟩] W _ from js_rsign' [44] k hs (by decide))
 have hd0:(0:Int)≤(d:Int):=by omega
 have hd1:(d:Int) < 50:=by omega
 have hl0:(0:Int)≤(L0.length:Int):=by omega
 have hl1:(L0.length:Int) < 5000:=by omega
 have hdd:((d+1:Nat):Int)=(d:Int)+1:=by omega
 clear hV h
 cases hpre:[close o].isPrefixOf (skip u)with
 | true=>
  have HRR:=Qh (show groupF (fun s=> kids F o (d+1) (L0.length+1) [] s) (kdF o) key (close o) u= .ok 1 [⟨kdF o,key,[],0⟩] ((skip u).drop 1) by
   rw [qko (qnj _ _ _ _ _ _),if_pos hpre])
  rw [hpre,if_pos rfl]at HS0
  clear hpre HVV HEW HCW;generalize groupF (fun s=> kids F o (d+1) (L0.length+1) [] s) (kdF o) key (close o) u=R at*;generalize sb [close o]=E at*;go_enter Tryz.func103,Tryz.ntmps103
  go_wp2_with fail;refine HS0.out.mono ?_
  rintro en w1 ⟨rfl,HX⟩;clear HS0;go_wp2_with fail;go_ret;rw [HRR.out];exact ⟨rfl,v,HX⟩
 | false=>
  have HST:=Qh (fun w1 h k=> KS.start (w:=w) (w1:=w1) (b:=b) (s:=s) (v:=v) (L0:=L0) (kd:=kdF o) (key:=key) (o:=o) (d:=d) (F:=F) h k hpre hu hL0)
  rw [hpre,if_neg (by decide)]at HS0
  clear hpre;generalize groupF (fun s=> kids F o (d+1) (L0.length+1) [] s) (kdF o) key (close o) u=R at*;cases o with
  | true=>
   change Hid (∀w1,RR w1 b s (skip u) v (L0++[⟨6,key,[],0⟩]) 0→Stp w w1 b v v→KS w b s v L0 6 key true d F R F [] [] (skip u) v w1)at HST
   change Hid (Calls _ _ _ _ fun en w'=> _∧Hid (RR w' b s (skip u) v (L0++[⟨6,key,[],0⟩]) 0∧_))at HS0
   generalize hE:sb [close true]=E at*;clear hE;go_enter Tryz.func103,Tryz.ntmps103
   go_wp2_with fail;refine HS0.out.mono ?_
   rintro en w1 ⟨rfl,HX⟩;have HKS:=Qh (HST.out w1 HX.out.1 HX.out.2)
   clear HS0 HX HST;go_wp2_with fail;go_loopg [] F (fun g wx=> ∃ks P x vx,Hid (KS w b s v L0 6 key true d F R g ks P x vx wx))
   case atStart=> exact ⟨_,_,_,_,HKS⟩
   case round=>
    clear HKS;obtain ⟨ks,P,x,vx,HK⟩:=hrel
    cases gk with
    | zero=> exact absurd HK.out.fuel (Nat.not_lt_zero _)
    | succ g=>
     obtain ⟨L,hL⟩:∃L,L=L0++(⟨6,key,[],(P.length:Int)⟩:V)::P.flatten:=⟨_,rfl⟩
     have HL:=Qh hL
     have hlen:L0.length < L.length:=by rw [hL];exact qlm _ _ _
     have hget:L[L0.length]=⟨6,key,[],(P.length:Int)⟩:=by simp [hL]
     have HKR:=Qh (show RR wr b s x vx L 0 by rw [hL];exact HK.out.st)
     have hfew:L.length≤5000:=by rw [hL];exact HK.out.few
     have hPn:P.length≤5000:=by
      have:=qnc HK.out.parts
      rw [hL,List.length_append,List.length_cons]at hfew
      omega
     clear hL;obtain ⟨g2,cc,rfl, -, -, -⟩:=HKR.out.own.got (Nat.lt_of_le_of_lt (Nat.zero_le _) hlen)
     obtain ⟨x0, -, -, -⟩:=HKR.out.own.at_.1.cells hlen
     rw [hget,Nat.zero_add]at x0
     obtain ⟨c2,ff⟩:=HKR.out.cell2
     have hg:g < F:=HK.out.le
     have hxg:x.length≤g:=Nat.le_of_lt_succ HK.out.fuel
     have f1:(L0.length:Int) < (L.length:Int):=by omega
     have f2:¬(L.length:Int)≤(L0.length:Int):=by omega
     clear hget;have HM:=Qh (qul wr b s x (.slice (some ⟨g2,0,none⟩) L.length cc) L0 ⟨6,key,[],(P.length:Int)⟩ ks P (d+1) (by rw [←HL.out];exact HKR.out) hs HK.out.parts (by rw [←HL.out];exact hfew))
     rw [←HL.out]at HM
     cases hnm0:nameR ks x with
     | err c=>
      have hnm:nmR true ks x= .err c:=hnm0
      have HRR:=Qh (show R= .err c from HK.out.res.trans (qz1 ((qei _ _ _).trans hnm)))
      rw [hnm0]at HM
      clear hnm hnm0 HEW HCW HVV;go_wp2_with fail;refine HM.out.mono ?_
      rintro en w2 ⟨rfl,hc0,u4,HY⟩;clear HM;go_wp2_with fail;go_ret;rw [HRR.out];exact ⟨rfl,hc0,u4,_,_,Qh ⟨HY.out.1,HK.out.step.trans HY.out.2⟩⟩
     | ok k1 r1=>
      have hnm:nmR true ks x= .ok k1 r1:=hnm0
      rw [hnm0]at HM
      clear hnm0;go_wp2_with fail;refine HM.out.mono ?_
      rintro en w2 ⟨rfl,HY⟩;clear HM;have HVC:=Qh (HVV.out g hg w2 b s r1 (.slice (some ⟨g2,0,none⟩) L.length cc) L (d+1) k1 HY.out.1 (Nat.le_trans (qfl hnm).2.2 hxg) hs hfew hd)
      rw [hdd]at HVC
      have HSY:=Qh (HK.out.step.trans HY.out.2)
      clear HY HKR x0 c2 ff;cases hval:valF g k1 (d+1) L.length r1 with
      | err c=>
       have HRR:=Qh (show R= .err c from HK.out.res.trans (qsa ((qei _ _ _).trans hnm) (by rw [←HL.out];exact hval)))
       rw [hval]at HVC
       clear hval hnm HK HEW HCW HVV;generalize sb k1=K1 at*;go_wp2_with fail;refine HVC.out.mono ?_
       rintro en w3 ⟨rfl,hc0,u4,v4,L4,HZ⟩;clear HVC;go_wp2_with fail;go_ret;rw [HRR.out];exact ⟨rfl,hc0,u4,v4,L4,Qh ⟨HZ.out.1,HSY.out.trans HZ.out.2⟩⟩
      | ok m l1 r2=>
       obtain ⟨rfl, -,hfew3,v1,l2,t1,rfl, -, -⟩:=qhz (qfl hnm).1 (qfl hnm).2.1 hval
       rw [hval]at HVC
       have HVL:=Qh (show valF g k1 (d+1) (L0++(⟨6,key,[],(P.length:Int)⟩:V)::P.flatten).length r1= .ok 1 (v1::l2) r2 by rw [←HL.out];exact hval)
       have HNM:=Qh hnm
       clear hval hnm;generalize sb k1=K1 at*;go_wp2_with fail;refine HVC.out.mono ?_
       rintro en w3 ⟨rfl,v3,HZ⟩;clear HVC;obtain ⟨M,hM⟩:∃M,M=L++(v1::l2):=⟨_,rfl⟩
       rw [←hM]at HZ
       have hml:L0.length < M.length:=by rw [hM,List.length_append];omega
       have hmg:M[L0.length]=⟨6,key,[],(P.length:Int)⟩:=by simp [hM,HL.out]
       obtain ⟨g3,c3,rfl, -, -, -⟩:=HZ.out.1.own.got (Nat.lt_of_le_of_lt (Nat.zero_le _) hml)
       obtain ⟨-, -, -,y3⟩:=HZ.out.1.own.at_.1.cells hml
       rw [hmg,Nat.zero_add]at y3
       obtain ⟨c2,ff⟩:=HZ.out.1.cell2
       have ff3:=HZ.out.1.own.unfrozen (L0.length*4+3)
       have hML:M=(L0++(⟨6,key,[],(P.length:Int)⟩:V)::P.flatten)++(v1::l2):=by rw [hM,HL.out]
       have HG:=Qh (KS.grown (w:=w3) (b:=b) (s:=s) (u:=r2) (L0:=L0) (kd:=6) (key:=key) (P:=P) (l1:=v1::l2) (n:=M.length) (gb:=g3) (c:=c3) (by rw [←hML];exact HZ.out.1))
       have HSZ:=Qh (HSY.out.trans (HZ.out.2.trans HG.out.2))
       have HE1:=Qh (HEW.out _ _ _ _ HG.out.1)
       clear hML hmg HZ hM HSY;have e1:(L0.length:Int) < (M.length:Int):=by omega
       have e2:¬(M.length:Int)≤(L0.length:Int):=by omega
       have e3:(P.length:Int)≤5000:=by omega
       have e4:(0:Int)≤(P.length:Int):=by omega
       cases h3:[close true].isPrefixOf (skip r2)with
       | true=>
        have HRR:=Qh (show R=_ from HK.out.res.trans (qmx ((qei _ _ _).trans HNM.out) HVL.out h3))
        rw [h3,if_pos rfl]at HE1
        clear h3 HK HEW HCW HVV HVL HNM;go_wp2_with fail;refine HE1.out.mono ?_
        rintro en w4 ⟨rfl,HB⟩;clear HE1;go_wp2_with fail;go_ret;rw [HRR.out];refine ⟨rfl,_,Qh ⟨?_,HSZ.out.trans HB.out.2⟩⟩
        have:=HB.out.1
        rw [List.length_append,List.length_singleton,List.flatten_append,List.flatten_cons,List.flatten_nil,List.append_nil]at this
        exact this
       | false=>
        rw [h3,if_neg (by decide)]at HE1
        have HH3:=Qh h3
        clear h3;go_wp2_with fail;refine HE1.out.mono ?_
        rintro en w4 ⟨rfl,HB⟩;have HC1:=Qh (HCW.out _ _ _ _ HB.out.1)
        rw [qa3]at HC1
        have HSB:=Qh (HSZ.out.trans HB.out.2)
        clear HE1 HB HSZ c2 ff y3 ff3;cases h4:[44].isPrefixOf (skip r2)with
        | true=>
         rw [h4,if_pos rfl]at HC1
         have HM:=Qh (fun w5 v5 st k=> KS.more (w1:=w5) (v':=v5) HK.out HNM.out HVL.out HH3.out h4 st k)
         clear h4 HK HEW HCW HVV HVL HNM HH3;go_wp2_with fail;refine HC1.out.mono ?_
         rintro en w5 ⟨rfl,HD⟩;have HKN:=Qh (HM.out w5 _ HD.out.1 (HSB.out.trans HD.out.2))
         clear HC1 HM HD HSB;go_wp2_with fail;go_roundg g
         case measure=> omega
         case rel=> exact ⟨_,_,_,_,HKN⟩
        | false=>
         rw [h4,if_neg (by decide)]at HC1
         have HRR:=Qh (show R=_ from HK.out.res.trans (qoe ((qei _ _ _).trans HNM.out) HVL.out HH3.out h4))
         clear h4 HK HEW HCW HVV HVL HNM HH3;go_wp2_with fail;refine HC1.out.mono ?_
         rintro en w5 ⟨rfl,HD⟩;have HF:=Qh (js_rfail' 3 HD.out.1)
         clear HC1;go_wp2_with fail;refine HF.out.mono ?_
         rintro en w6 ⟨rfl,HFF⟩;clear HF;go_wp2_with fail;go_ret;rw [HRR.out];exact ⟨rfl,by decide,_,_,_,Qh ⟨HFF.out.1,HSB.out.trans (HD.out.2.trans HFF.out.2)⟩⟩
  | false=>
   change Hid (∀w1,RR w1 b s (skip u) v (L0++[⟨5,key,[],0⟩]) 0→Stp w w1 b v v→KS w b s v L0 5 key false d F R F [] [] (skip u) v w1)at HST
   change Hid (Calls _ _ _ _ fun en w'=> _∧Hid (RR w' b s (skip u) v (L0++[⟨5,key,[],0⟩]) 0∧_))at HS0
   generalize hE:sb [close false]=E at*;clear hE;go_enter Tryz.func103,Tryz.ntmps103
   go_wp2_with fail;refine HS0.out.mono ?_
   rintro en w1 ⟨rfl,HX⟩;have HKS:=Qh (HST.out w1 HX.out.1 HX.out.2)
   clear HS0 HX HST;go_wp2_with fail;go_loopg [] F (fun g wx=> ∃ks P x vx,Hid (KS w b s v L0 5 key false d F R g ks P x vx wx))
   case atStart=> exact ⟨_,_,_,_,HKS⟩
   case round=>
    clear HKS;obtain ⟨ks,P,x,vx,HK⟩:=hrel
    cases gk with
    | zero=> exact absurd HK.out.fuel (Nat.not_lt_zero _)
    | succ g=>
     obtain ⟨L,hL⟩:∃L,L=L0++(⟨5,key,[],(P.length:Int)⟩:V)::P.flatten:=⟨_,rfl⟩
     have HL:=Qh hL
     have hlen:L0.length < L.length:=by rw [hL];exact qlm _ _ _
     have hget:L[L0.length]=⟨5,key,[],(P.length:Int)⟩:=by simp [hL]
     have HKR:=Qh (show RR wr b s x vx L 0 by rw [hL];exact HK.out.st)
     have hfew:L.length≤5000:=by rw [hL];exact HK.out.few
     have hPn:P.length≤5000:=by
      have:=qnc HK.out.parts
      rw [hL,List.length_append,List.length_cons]at hfew
      omega
     clear hL;obtain ⟨g2,cc,rfl, -, -, -⟩:=HKR.out.own.got (Nat.lt_of_le_of_lt (Nat.zero_le _) hlen)
     obtain ⟨x0, -, -, -⟩:=HKR.out.own.at_.1.cells hlen
     rw [hget,Nat.zero_add]at x0
     obtain ⟨c2,ff⟩:=HKR.out.cell2
     have hg:g < F:=HK.out.le
     have hxg:x.length≤g:=Nat.le_of_lt_succ HK.out.fuel
     have f1:(L0.length:Int) < (L.length:Int):=by omega
     have f2:¬(L.length:Int)≤(L0.length:Int):=by omega
     clear hget;obtain ⟨k1,hk1⟩:∃k1:List UInt8,k1=[]:=⟨_,rfl⟩
     obtain ⟨r1,hr1⟩:∃r1,r1=x:=⟨_,rfl⟩
     obtain ⟨w2,hw2⟩:∃w2,w2=wr:=⟨_,rfl⟩
     have hnm:nmR false ks x= .ok k1 r1:=by rw [hk1,hr1];rfl
     have HY:=Qh (show RR w2 b s r1 (.slice (some ⟨g2,0,none⟩) L.length cc) L 0∧Stp wr w2 b (.slice (some ⟨g2,0,none⟩) L.length cc) (.slice (some ⟨g2,0,none⟩) L.length cc)by rw [hr1,hw2];exact ⟨HKR.out,Stp.refl _ _ _⟩)
     have HX0:=Qh x0
     have HC2:=Qh c2
     have HVC:=Qh (HVV.out g hg w2 b s r1 (.slice (some ⟨g2,0,none⟩) L.length cc) L (d+1) k1 HY.out.1 (Nat.le_trans (qfl hnm).2.2 hxg) hs hfew hd)
     rw [hdd]at HVC
     have HSY:=Qh (HK.out.step.trans HY.out.2)
     clear HY HKR x0 c2 ff;cases hval:valF g k1 (d+1) L.length r1 with
     | err c=>
      have HRR:=Qh (show R= .err c from HK.out.res.trans (qsa ((qei _ _ _).trans hnm) (by rw [←HL.out];exact hval)))
      rw [hval]at HVC
      clear hval hnm HK HEW HCW HVV;have x0:=HX0.out
      have c2:=HC2.out
      rw [hk1,qf9,hw2]at HVC
      clear HX0 HC2;go_wp2_with fail;refine HVC.out.mono ?_
      rw [hw2]at HSY
      rintro en w3 ⟨rfl,hc0,u4,v4,L4,HZ⟩;clear HVC;go_wp2_with fail;go_ret;rw [HRR.out];exact ⟨rfl,hc0,u4,v4,L4,Qh ⟨HZ.out.1,HSY.out.trans HZ.out.2⟩⟩
     | ok m l1 r2=>
      obtain ⟨rfl, -,hfew3,v1,l2,t1,rfl, -, -⟩:=qhz (qfl hnm).1 (qfl hnm).2.1 hval
      rw [hval]at HVC
      have HVL:=Qh (show valF g k1 (d+1) (L0++(⟨5,key,[],(P.length:Int)⟩:V)::P.flatten).length r1= .ok 1 (v1::l2) r2 by rw [←HL.out];exact hval)
      have HNM:=Qh hnm
      clear hval hnm;have x0:=HX0.out
      have c2:=HC2.out
      rw [hk1,qf9,hw2]at HVC
      clear HX0 HC2;go_wp2_with fail;refine HVC.out.mono ?_
      rw [hw2]at HSY
      rintro en w3 ⟨rfl,v3,HZ⟩;clear HVC x0 c2;obtain ⟨M,hM⟩:∃M,M=L++(v1::l2):=⟨_,rfl⟩
      rw [←hM]at HZ
      have hml:L0.length < M.length:=by rw [hM,List.length_append];omega
      have hmg:M[L0.length]=⟨5,key,[],(P.length:Int)⟩:=by simp [hM,HL.out]
      obtain ⟨g3,c3,rfl, -, -, -⟩:=HZ.out.1.own.got (Nat.lt_of_le_of_lt (Nat.zero_le _) hml)
      obtain ⟨-, -, -,y3⟩:=HZ.out.1.own.at_.1.cells hml
      rw [hmg,Nat.zero_add]at y3
      obtain ⟨c2,ff⟩:=HZ.out.1.cell2
      have ff3:=HZ.out.1.own.unfrozen (L0.length*4+3)
      have hML:M=(L0++(⟨5,key,[],(P.length:Int)⟩:V)::P.flatten)++(v1::l2):=by rw [hM,HL.out]
      have HG:=Qh (KS.grown (w:=w3) (b:=b) (s:=s) (u:=r2) (L0:=L0) (kd:=5) (key:=key) (P:=P) (l1:=v1::l2) (n:=M.length) (gb:=g3) (c:=c3) (by rw [←hML];exact HZ.out.1))
      have HSZ:=Qh (HSY.out.trans (HZ.out.2.trans HG.out.2))
      have HE1:=Qh (HEW.out _ _ _ _ HG.out.1)
      clear hML hmg HZ hM HSY;have e1:(L0.length:Int) < (M.length:Int):=by omega
      have e2:¬(M.length:Int)≤(L0.length:Int):=by omega
      have e3:(P.length:Int)≤5000:=by omega
      have e4:(0:Int)≤(P.length:Int):=by omega
      cases h3:[close false].isPrefixOf (skip r2)with
      | true=>
       have HRR:=Qh (show R=_ from HK.out.res.trans (qmx ((qei _ _ _).trans HNM.out) HVL.out h3))
       rw [h3,if_pos rfl]at HE1
       clear h3 HK HEW HCW HVV HVL HNM;go_wp2_with fail;refine HE1.out.mono ?_
       rintro en w4 ⟨rfl,HB⟩;clear HE1;go_wp2_with fail;go_ret;rw [HRR.out];refine ⟨rfl,_,Qh ⟨?_,HSZ.out.trans HB.out.2⟩⟩
       have:=HB.out.1
       rw [List.length_append,List.length_singleton,List.flatten_append,List.flatten_cons,List.flatten_nil,List.append_nil]at this
       exact this
      | false=>
       rw [h3,if_neg (by decide)]at HE1
       have HH3:=Qh h3
       clear h3;go_wp2_with fail;refine HE1.out.mono ?_
       rintro en w4 ⟨rfl,HB⟩;have HC1:=Qh (HCW.out _ _ _ _ HB.out.1)
       rw [qa3]at HC1
       have HSB:=Qh (HSZ.out.trans HB.out.2)
       clear HE1 HB HSZ c2 ff y3 ff3;cases h4:[44].isPrefixOf (skip r2)with
       | true=>
        rw [h4,if_pos rfl]at HC1
        have HM:=Qh (fun w5 v5 st k=> KS.more (w1:=w5) (v':=v5) HK.out HNM.out HVL.out HH3.out h4 st k)
        clear h4 HK HEW HCW HVV HVL HNM HH3;go_wp2_with fail;refine HC1.out.mono ?_
        rintro en w5 ⟨rfl,HD⟩;have HKN:=Qh (HM.out w5 _ HD.out.1 (HSB.out.trans HD.out.2))
        clear HC1 HM HD HSB;go_wp2_with fail;go_roundg g
        case measure=> omega
        case rel=> exact ⟨_,_,_,_,HKN⟩
       | false=>
        rw [h4,if_neg (by decide)]at HC1
        have HRR:=Qh (show R=_ from HK.out.res.trans (qoe ((qei _ _ _).trans HNM.out) HVL.out HH3.out h4))
        clear h4 HK HEW HCW HVV HVL HNM HH3;go_wp2_with fail;refine HC1.out.mono ?_
        rintro en w5 ⟨rfl,HD⟩;have HF:=Qh (js_rfail' 3 HD.out.1)
        clear HC1;go_wp2_with fail;refine HF.out.mono ?_
        rintro en w6 ⟨rfl,HFF⟩;clear HF;go_wp2_with fail;go_ret;rw [HRR.out];exact ⟨rfl,by decide,_,_,_,Qh ⟨HFF.out.1,HSB.out.trans (HD.out.2.trans HFF.out.2)⟩⟩
end Go.Proofs.YtgmangikcfakgaaGreatDoor
