import Derived.Test.YtgmangikcfakgaaGreatDoorPL31
import Derived.Deep.LoopGhost
import Derived.Deep.CutBlock
import Derived.Test.YtgmangikcfakgaaGreatDoorPL16
import Derived.Test.YtgmangikcfakgaaGreatDoorPL14
import Derived.Deep.CutRange
import Derived.Test.YtgmangikcfakgaaGreatDoorPL24
import Derived.BigQuiet
import Derived.Test.YtgmangikcfakgaaGreatDoorPL26
import Derived.Test.YtgmangikcfakgaaGreatDoorPL17
import Derived.Test.YtgmangikcfakgaaGreatDoorPL15
import Derived.Deep.RegionHeld3
import Derived.Test.YtgmangikcfakgaaGreatDoorPL19
import Derived.Deep.RegionLaw
import Derived.Test.YtgmangikcfakgaaGreatDoorPL18
import Derived.Test.YtgmangikcfakgaaGreatDoorPL13
import Derived.Test.YtgmangikcfakgaaGreatDoorPL3
namespace Go.Proofs.YtgmangikcfakgaaGreatDoor
open Go.RowKit Sh
set_option maxRecDepth 100000
end Go.Proofs.YtgmangikcfakgaaGreatDoor
namespace Go.Proofs.YtgmangikcfakgaaGreatDoor
open Go.RowKit Sh
namespace Jt
end Jt
open Jt
end Go.Proofs.YtgmangikcfakgaaGreatDoor
namespace Go.Proofs.YtgmangikcfakgaaGreatDoor
open Go.RowKit Sh Jt Js Jo
namespace Jo
end Jo
end Go.Proofs.YtgmangikcfakgaaGreatDoor
namespace Go.Proofs.YtgmangikcfakgaaGreatDoor
open Go.RowKit Sh Jt Js Jo
def strL (ks:List (List UInt8)):List Value:=ks.map fun k=> Value.string (sb k)
def OwnStrs (w:World) (B:Nat) (v:Value) (ks:List (List UInt8)):Prop:=w.ownsRow B 9 1 v ks.length (strL ks)
theorem OwnStrs.nil (w:World) (B:Nat):OwnStrs w B (.slice none 0 0) []:=⟨rfl, .inl ⟨rfl,rfl⟩⟩
theorem OwnStrs.below {w w':World} {B:Nat} {v:Value} {ks:List (List UInt8)} (h:OwnStrs w B v ks) (hb:Below w.heap.size w w'):OwnStrs w' B v ks:=by
 obtain ⟨hl,h1 | ⟨g,cap,cur,rfl,hg,hh,hn,hc,hs,ht⟩⟩:=h
 ·exact ⟨hl, .inl h1⟩
 ·exact ⟨hl, .inr ⟨g,cap,cur,rfl,hg,(hb.block g (Array.getElem?_eq_some_iff.1 hh).1).trans hh,hn,hc,hs,ht⟩⟩
theorem OwnStrs.mono {w:World} {B B':Nat} {v:Value} {ks:List (List UInt8)} (h:OwnStrs w B v ks) (hB:B'≤B):OwnStrs w B' v ks:=by
 obtain ⟨hl,h1 | ⟨g,cap,cur,rfl,hg,rest⟩⟩:=h
 ·exact ⟨hl, .inl h1⟩
 ·exact ⟨hl, .inr ⟨g,cap,cur,rfl,Nat.le_trans hB hg,rest⟩⟩
theorem run_build_str1 (W:World) (a:ByteArray):(Instr.buildSlice 53 1 #[(0, .string a)]).run Tryz.prog W= .ok (.slice (some ⟨W.heap.size,0,none⟩) 1 1) (W.alloc (.cells #[.string a] 9)):=by
 obtain ⟨i,hi,hz,hsz,_⟩:=jo_infoStr
 refine run_buildSlice (P:=Tryz.prog) W 53 9 1 #[(0, .string a)] #[.string a] i _ Tryz.underlying53 hi hz (by rw [hsz];decide) (by rw [hsz];decide) ?_
 rw [hsz]
 rw [show Array.range (1*1)=#[0]from by decide]
 simp [Instr.fill,Value.cells]
end Go.Proofs.YtgmangikcfakgaaGreatDoor
namespace Go.Proofs.YtgmangikcfakgaaGreatDoor
open Go.RowKit Sh Jt Js Jo
namespace Jo
end Jo
end Go.Proofs.YtgmangikcfakgaaGreatDoor
namespace Go.Proofs.YtgmangikcfakgaaGreatDoor
open Go.RowKit Sh Jt Js
structure RRd (w:World) (b:Nat) (s:List UInt8) (p:Nat) (v:Value) (L:List V) (e:Int):Prop where
 row:Row w b 92 [.string (sb s), .int .i64 (p:Int),v, .int .i64 e]
 own:OwnVals w (b+1) v L
section
variable {w w1:World} {b:Nat} {s:List UInt8} {p:Nat} {v:Value} {L:List V} {e:Int}
theorem RRd.cells (h:RRd w b s p v L e):w.cell? ⟨b,0,none⟩=some (.string (sb s))∧w.cell? ⟨b,1,none⟩=some (.int .i64 (p:Int))∧w.cell? ⟨b,2,none⟩=some v∧w.cell? ⟨b,3,none⟩=some (.int .i64 e):=
 ⟨h.row.cell rfl,h.row.cell rfl,h.row.cell rfl,h.row.cell rfl⟩
theorem RRd.below (h:RRd w b s p v L e) (hb:Below w.heap.size w w1):RRd w1 b s p v L e:=⟨h.row.below hb h.row.lt,h.own.below hb⟩
theorem RRd.other (h:RRd w b s p v L e) {i:Nat} {x:Value}:OwnVals (w.setCell ⟨b,i,none⟩ x) (b+1) v L:=
 h.own.kept ((Kept.refl w (·=b)).setCell (a:=⟨b,i,none⟩) (.inr rfl) x) (fun k hk e=> by
  have:=(h.own.block hk).1
  omega)
theorem RRd.at_ (h:RRd w b s p v L e) (q:Nat):RRd (w.setCell ⟨b,1,none⟩ (.int .i64 (q:Int))) b s q v L e∧Stp w (w.setCell ⟨b,1,none⟩ (.int .i64 (q:Int))) b v v:=
 ⟨⟨h.row.set 1 _,h.other⟩,⟨(Kept.refl _ _).setCell (a:=⟨b,1,none⟩) (.inr (.inl rfl)) _,fun _ h=> .inl h⟩⟩
theorem RRd.err (h:RRd w b s p v L e) (c:Int):RRd (w.setCell ⟨b,3,none⟩ (.int .i64 c)) b s p v L c∧Stp w (w.setCell ⟨b,3,none⟩ (.int .i64 c)) b v v:=
 ⟨⟨h.row.set 3 _,h.other⟩,⟨(Kept.refl _ _).setCell (a:=⟨b,3,none⟩) (.inr (.inl rfl)) _,fun _ h=> .inl h⟩⟩
theorem RRd.drew (h:RRd w b s p v L e) (m:Nat):RRd (w.drewN m) b s p v L e∧Stp w (w.drewN m) b v v:=
 have k:Below w.heap.size w (w.drewN m):=⟨rfl,rfl,rfl,Nat.le_refl _,fun _ _=> rfl⟩
 ⟨h.below k,Stp.of_below k b v⟩
end
end Go.Proofs.YtgmangikcfakgaaGreatDoor
namespace Go.Proofs.YtgmangikcfakgaaGreatDoor
open Go.RowKit Sh Jt Js
end Go.Proofs.YtgmangikcfakgaaGreatDoor
namespace Go.Proofs.YtgmangikcfakgaaGreatDoor
open Go.RowKit Sh Jt Js
namespace Js
end Js
end Go.Proofs.YtgmangikcfakgaaGreatDoor
namespace Go.Proofs.YtgmangikcfakgaaGreatDoor
open Go.RowKit Sh Jt Js
def RR (w:World) (b:Nat) (s u:List UInt8) (v:Value) (L:List V) (e:Int):Prop:=∃p,p≤s.length∧s.drop p=u∧RRd w b s p v L e
section
variable {w w1:World} {b:Nat} {s u:List UInt8} {v:Value} {L:List V} {e:Int}
theorem RR.below (h:RR w b s u v L e) (hb:Below w.heap.size w w1):RR w1 b s u v L e:=by
 obtain ⟨p,h1,h2,h3⟩:=h
 exact ⟨p,h1,h2,h3.below hb⟩
theorem RR.len (h:RR w b s u v L e):u.length≤s.length:=by
 obtain ⟨p,h1,rfl,h3⟩:=h
 rw [List.length_drop]
 omega
theorem RR.lt (h:RR w b s u v L e):b < w.heap.size:=by
 obtain ⟨p,_,_,h3⟩:=h
 exact h3.row.lt
theorem RR.own (h:RR w b s u v L e):OwnVals w (b+1) v L:=by
 obtain ⟨p,_,_,h3⟩:=h
 exact h3.own
end
end Go.Proofs.YtgmangikcfakgaaGreatDoor
namespace Go.Proofs.YtgmangikcfakgaaGreatDoor
open Go.RowKit Sh Jt Js
section
variable {w wa w':World} {b:Nat} {s u:List UInt8} {v v':Value} {L L':List V} {e:Int}
theorem RR.grow (h:RR w b s u v L e) (hb:Below w.heap.size w wa) (own:OwnVals w' (b+1) v' L') (k:Kept wa w' (fun k=> b+1≤k∧v.ownBlock=some k)) (f:∀k,v'.ownBlock=some k→v.ownBlock=some k∨wa.heap.size≤k):
  RR (w'.setCell ⟨b,2,none⟩ v') b s u v' L' e∧Stp w (w'.setCell ⟨b,2,none⟩ v') b v v':=by
 obtain ⟨p,hp,hu,h0⟩:=h
 have h1:=h0.below hb
 have r1:Row w' b 92 [.string (sb s), .int .i64 (p:Int),v, .int .i64 e]:=k.row h1.row (fun hk=> by omega)
 have hs:w.heap.size≤wa.heap.size:=hb.size
 have k2:Kept w w' (fun k=> k=b∨v.ownBlock=some k):=⟨k.os.trans hb.os,k.tape.trans hb.tape,k.output.trans hb.output,Nat.le_trans hs k.size,fun i hi hn=> (k.block i (Nat.lt_of_lt_of_le hi hs) (fun hk=> hn (.inr hk.2))).trans (hb.block i hi)⟩
 refine ⟨⟨p,hp,hu,r1.set 2 _,own.kept ((Kept.refl w' (·=b)).setCell (a:=⟨b,2,none⟩) (.inr rfl) _) (fun i hi e=> by
  have:=(own.block hi).1
  omega)⟩,⟨k2.setCell (a:=⟨b,2,none⟩) (.inr (.inl rfl)) _,fun i hi=> ?_⟩⟩
 rcases f i hi with h2 | h2
 ·exact .inl h2
 ·exact .inr (Nat.le_trans hs h2)
theorem RR.slot (h:RR w b s u v L e) (hb:Below w.heap.size w wa) (k:Kept wa w' (fun k=> b+1≤k∧v.ownBlock=some k)):w'.cell? ⟨b,2,none⟩=some v∧w'.frozen? ⟨b,2,none⟩=false:=by
 obtain ⟨p,hp,hu,h0⟩:=h
 have r1:Row w' b 92 [.string (sb s), .int .i64 (p:Int),v, .int .i64 e]:=k.row (h0.below hb).row (fun hk=> by omega)
 exact ⟨r1.cell rfl,r1.frozen 2⟩
end
end Go.Proofs.YtgmangikcfakgaaGreatDoor
namespace Go.Proofs.YtgmangikcfakgaaGreatDoor
open Go Sh
namespace Js
open Jt
inductive NR where
 | ok (key r:List UInt8)
 | err (c:Nat)
def nameR (ks:List (List UInt8)) (s:List UInt8):NR:=match unqF (skip s)with
 | none=> .err 3
 | some p=> if p.1∈ks then .err 7 else if [58].isPrefixOf (skip ((skip s).drop p.2))=true then .ok p.1 ((skip ((skip s).drop p.2)).drop 1) else .err 3
theorem nmr_is (ks:List (List UInt8)) (s:List UInt8) (f:List UInt8→List UInt8→Res):nameF ks s f=match nameR ks s with | .ok k r=> f k r | .err c=> .err c:=by
 unfold nameF nameR
 cases unqF (skip s)with
 | none=> rfl
 | some p=>
  dsimp only
  by_cases h:p.1∈ks
  ·rw [if_pos h,if_pos h]
  ·rw [if_neg h,if_neg h]
   cases hs:skip ((skip s).drop p.2)with
   | nil=> rfl
   | cons a r=>
    dsimp only
    by_cases h2:a=58
    ·subst h2
     rw [if_pos rfl,if_pos (pre_one.2 ⟨r,rfl⟩)]
     rfl
    ·rw [if_neg h2,if_neg]
     intro h3
     obtain ⟨r2,e⟩:=pre_one.1 h3
     injection e with e _
     exact h2 e
theorem name_key {ks:List (List UInt8)} {s key r:List UInt8} (h:nameR ks s= .ok key r):validF key=true∧key∉ks∧r.length≤s.length:=by
 unfold nameR at h
 cases hu:unqF (skip s)with
 | none=> rw [hu]at h;cases h
 | some p=>
  rw [hu]at h
  dsimp only at h
  split at h
  ·cases h
  next hno=>
   split at h
   ·injection h with h1 h2
    subst h1 h2
    obtain ⟨x,k⟩:=p
    refine ⟨(unqF_cut hu).1,hno, ?_⟩
    have h1:=skip_len ((skip s).drop k)
    have h2:=skip_len s
    rw [List.length_drop]at h1 ⊢
    dsimp only
    omega
   ·cases h
theorem name_perm {ks names:List (List UInt8)} (h:∀k,k∈names↔k∈ks) (s:List UInt8):nameR names s=nameR ks s:=by
 unfold nameR
 cases unqF (skip s)with
 | none=> rfl
 | some p=>
  dsimp only
  by_cases h1:p.1∈ks
  ·rw [if_pos h1,if_pos ((h _).2 h1)]
  ·rw [if_neg h1,if_neg (fun h2=> h1 ((h _).1 h2))]
theorem Parts.snoc {d:Nat} {o:Bool} {ks:List (List UInt8)} {P:List (List V)} (h:Parts d o ks P) {v:V} {l:List V} {t:List UInt8} (h1:One d o v l t):Parts d o (ks++[v.key]) (P++[v::l]):=by
 induction h with
 | nil=> exact .cons h1 .nil
 | cons h2 _ ih=> exact .cons h2 ih
def kidR (kd:Int) (key:List UInt8) (n:Nat) (l:List V) (x:Res):Res:=x.bind fun m l2 r=> .ok 1 (⟨kd,key,[],((n+m:Nat):Int)⟩::(l++l2)) r
theorem kids_skip (g:Nat) (o:Bool) (d c:Nat) (ks:List (List UInt8)) (s:List UInt8):kids g o d c ks (skip s)=kids g o d c ks s:=by
 cases g with
 | zero=> rfl
 | succ g=> rw [kids_one,kids_one,one_skip]
theorem group_head {o:Bool} {K:List UInt8→Res} {kind:Int} {key s:List UInt8} (hK:K (skip s)=K s):
  groupF K kind key (close o) s=if [close o].isPrefixOf (skip s)=true then .ok 1 [⟨kind,key,[],0⟩] ((skip s).drop 1) else kidR kind key 0 [] (K (skip s)):=by
 have e:∀x:Res,kidR kind key 0 [] x=x.bind fun n l r=> .ok 1 (⟨kind,key,[],n⟩::l) r:=fun x=> by
  cases x with
  | err c=> rfl
  | ok m l r=> show Res.ok 1 (⟨kind,key,[],((0+m:Nat):Int)⟩::([]++l)) r=_;rw [Nat.zero_add];rfl
 rw [e,hK]
 unfold groupF
 cases hs:skip s with
 | nil=> rfl
 | cons a r=>
  dsimp only
  by_cases h:a=close o
  ·subst h
   rw [if_pos rfl,if_pos (pre_one.2 ⟨r,rfl⟩)]
   rfl
  ·rw [if_neg h,if_neg]
   intro h3
   obtain ⟨r2,e⟩:=pre_one.1 h3
   injection e with e _
   exact h e
def nmR (o:Bool) (ks:List (List UInt8)) (s:List UInt8):NR:=if o=true then nameR ks s else .ok [] s
theorem kids_nm (g:Nat) (o:Bool) (d c:Nat) (ks:List (List UInt8)) (s:List UInt8):kids (g+1) o d c ks s=match nmR o ks s with
  | .ok key s1=> (valF g key d c s1).bind fun n l r=> nextF o r n l fun r2=> kids g o d (c+l.length) (key::ks) r2
  | .err e=> .err e:=by
 rw [kids]
 unfold nmR valF
 cases o with
 | true=> rw [if_pos rfl,if_pos rfl,nmr_is]
 | false=> rw [if_neg (by decide),if_neg (by decide)]
theorem val_facts {g:Nat} {key s:List UInt8} {d c n:Nat} {l:List V} {r:List UInt8} {o:Bool} (ho:o=false→key=[]) (hv:validF key=true) (h:valF g key d c s= .ok n l r):
  n=1∧r.length < s.length∧c+l.length≤5000∧∃v l2 t,l=v::l2∧v.key=key∧One d o v l2 t:=by
 have hK:KOk (fun o2=> kids g o2 (d+1) (c+1) []) (d+1) (c+1):=fun o2 s n l r hx=> by
  obtain ⟨K,t,h1,_,h3,h4,h5⟩:=kids_right _ _ _ _ _ _ _ _ _ hx
  exact ⟨K,t,h1,h3,fun e=> (h4 e).1,h5⟩
 obtain ⟨h1,v,l2,t,h2,h3,h4,h5⟩:=val_right hK ho hv h
 exact ⟨h1,val_len (fun o s n l r hk=> Nat.le_of_lt (kids_len _ _ _ _ _ _ _ _ _ hk)) h,h5,v,l2,t,h2,h3,h4⟩
section
variable {g n:Nat} {o:Bool} {d c:Nat} {kd:Int} {key:List UInt8} {ks:List (List UInt8)} {s s1 k1:List UInt8} {l l1:List V} {r:List UInt8} {e:Nat}
theorem kid_more (h:nmR o ks s= .ok k1 s1) (h2:valF g k1 d c s1= .ok 1 l1 r) (h3:[close o].isPrefixOf (skip r)=false) (h4:[44].isPrefixOf (skip r)=true):
  kidR kd key n l (kids (g+1) o d c ks s)=kidR kd key (n+1) (l++l1) (kids g o d (c+l1.length) (k1::ks) ((skip r).drop 1)):=by
 rw [kids_nm,h]
 dsimp only
 obtain ⟨q,hq⟩:=pre_one.1 h4
 have hc:¬44=close o:=by
  rintro hc
  rw [hq,hc,pre_one.2 ⟨q,rfl⟩]at h3
  cases h3
 rw [h2,Res.bind_ok,nextF,hq]
 dsimp only
 rw [if_neg hc,if_pos rfl,List.drop_one,List.tail_cons]
 cases kids g o d (c+l1.length) (k1::ks) q with
 | err e=> rfl
 | ok m l2 r2=>
  show Res.ok 1 (⟨kd,key,[],((n+(1+m):Nat):Int)⟩::(l++(l1++l2))) r2=Res.ok 1 (⟨kd,key,[],((n+1+m:Nat):Int)⟩::(l++l1++l2)) r2
  rw [Nat.add_assoc,List.append_assoc]
end
end Js
end Go.Proofs.YtgmangikcfakgaaGreatDoor
namespace Go.Proofs.YtgmangikcfakgaaGreatDoor
open Go.RowKit Sh Jt Js
end Go.Proofs.YtgmangikcfakgaaGreatDoor
namespace Go.Proofs.YtgmangikcfakgaaGreatDoor
open Go.RowKit Sh Jt Js
end Go.Proofs.YtgmangikcfakgaaGreatDoor
namespace Go.Proofs.YtgmangikcfakgaaGreatDoor
open Go.RowKit Sh Jt Js
structure KS (w:World) (b:Nat) (s:List UInt8) (v:Value) (L0:List V) (kd:Int) (key:List UInt8) (o:Bool) (d F:Nat) (R:Res) (g:Nat) (ks:List (List UInt8)) (P:List (List V)) (u:List UInt8) (vx:Value) (wx:World):Prop where
 st:RR wx b s u vx (L0++⟨kd,key,[],(P.length:Int)⟩::P.flatten) 0
 step:Stp w wx b v vx
 parts:Parts (d+1) o ks P
 res:R=kidR kd key P.length P.flatten (kids g o (d+1) (L0++⟨kd,key,[],(P.length:Int)⟩::P.flatten).length ks.reverse u)
 fuel:u.length < g
 few:(L0++⟨kd,key,[],(P.length:Int)⟩::P.flatten).length≤5000
 le:g≤F
theorem nm_rev (o:Bool) (ks:List (List UInt8)) (s:List UInt8):nmR o ks.reverse s=nmR o ks s:=by
 unfold nmR
 rw [name_perm (ks:=ks) (names:=ks.reverse) (fun k=> List.mem_reverse)]
theorem nm_key {o:Bool} {ks:List (List UInt8)} {s key r:List UInt8} (h:nmR o ks s= .ok key r):(o=false→key=[])∧validF key=true∧r.length≤s.length:=by
 unfold nmR at h
 cases o with
 | true=>
  rw [if_pos rfl]at h
  obtain ⟨h1,_,h3⟩:=name_key h
  exact ⟨(fun e=> by cases e),h1,h3⟩
 | false=>
  rw [if_neg (by decide)]at h
  injection h with h1 h2
  subst h1 h2
  exact ⟨fun _=> rfl,valid_nil,Nat.le_refl _⟩
section
variable {w wx w1:World} {b:Nat} {s u:List UInt8} {v vx:Value} {L L0:List V} {e:Int} {kd:Int} {key:List UInt8} {o:Bool} {d F g:Nat} {R:Res} {ks:List (List UInt8)} {P:List (List V)}
theorem RR.count {n c:Nat} {gb:Nat} (h:RR w b s u (.slice (some ⟨gb,0,none⟩) n c) L e) {i:Nat} (hi:i < L.length) (z:Int):
  RR (w.setCell ⟨gb,i*4+3,none⟩ (.int .i64 z)) b s u (.slice (some ⟨gb,0,none⟩) n c) (L.set i ⟨L[i].kind,L[i].key,L[i].text,z⟩) e∧Stp w (w.setCell ⟨gb,i*4+3,none⟩ (.int .i64 z)) b (.slice (some ⟨gb,0,none⟩) n c) (.slice (some ⟨gb,0,none⟩) n c):=by
 obtain ⟨p,hp,hu,h0⟩:=h
 have hg:=(h0.own.block (k:=gb) rfl).1
 have o1:=h0.own.set (i:=i) (j:=3) hi (by decide) (x:= .int .i64 z) (v:=⟨L[i].kind,L[i].key,L[i].text,z⟩) rfl
 exact ⟨⟨p,hp,hu,h0.row.other (a:=⟨gb,i*4+3,none⟩) (by show b≠gb;omega) _,o1⟩,⟨(Kept.refl _ _).setCell (a:=⟨gb,i*4+3,none⟩) (.inr (.inr rfl)) _,fun _ h=> .inl h⟩⟩
theorem kid_len (L0:List V) (x:V) (l:List V):L0.length < (L0++x::l).length:=by
 rw [List.length_append,List.length_cons]
 omega
theorem kid_grow (L0:List V) (x y:V) (P:List (List V)) (l1:List V):((L0++x::P.flatten)++l1).set L0.length y=L0++y::(P++[l1]).flatten:=by
 rw [List.append_assoc,List.cons_append,List.set_append_right _ _ (Nat.le_refl _),Nat.sub_self,List.flatten_append]
 simp
theorem KS.grown {n c gb:Nat} {l1:List V} (h:RR w b s u (.slice (some ⟨gb,0,none⟩) n c) ((L0++⟨kd,key,[],(P.length:Int)⟩::P.flatten)++l1) 0):
  RR (w.setCell ⟨gb,L0.length*4+3,none⟩ (.int .i64 ((P.length:Int)+1))) b s u (.slice (some ⟨gb,0,none⟩) n c) (L0++⟨kd,key,[],((P++[l1]).length:Int)⟩::(P++[l1]).flatten) 0∧
   Stp w (w.setCell ⟨gb,L0.length*4+3,none⟩ (.int .i64 ((P.length:Int)+1))) b (.slice (some ⟨gb,0,none⟩) n c) (.slice (some ⟨gb,0,none⟩) n c):=by
 have hi:L0.length < ((L0++⟨kd,key,[],(P.length:Int)⟩::P.flatten)++l1).length:=by
  rw [List.length_append]
  have:=kid_len L0 ⟨kd,key,[],(P.length:Int)⟩ P.flatten
  omega
 have hg:((L0++⟨kd,key,[],(P.length:Int)⟩::P.flatten)++l1)[L0.length]=⟨kd,key,[],(P.length:Int)⟩:=by simp
 have:=h.count hi ((P.length:Int)+1)
 rw [hg,kid_grow]at this
 rw [List.length_append,List.length_singleton]
 exact this
theorem KS.start (h:RR w1 b s (skip u) v (L0++[⟨kd,key,[],0⟩]) 0) (k:Stp w w1 b v v) (hp:[close o].isPrefixOf (skip u)=false) (hu:u.length < F) (hL:L0.length < 5000):
  KS w b s v L0 kd key o d F (groupF (fun s=> kids F o (d+1) (L0.length+1) [] s) kd key (close o) u) F [] [] (skip u) v w1:=by
 refine ⟨h,k, .nil, ?_,Nat.lt_of_le_of_lt (skip_len u) hu, ?_,Nat.le_refl _⟩
 ·rw [group_head (kids_skip _ _ _ _ _ _),if_neg (by rw [hp];decide),List.length_append]
  rfl
 ·rw [List.length_append]
  show L0.length+1≤5000
  omega
theorem KS.more {k1 s1 r:List UInt8} {v1:V} {l2:List V} {v':Value} (h:KS w b s v L0 kd key o d F R (g+1) ks P u vx wx) (hn:nmR o ks u= .ok k1 s1) (hv:valF g k1 (d+1) (L0++⟨kd,key,[],(P.length:Int)⟩::P.flatten).length s1= .ok 1 (v1::l2) r)
  (h3:[close o].isPrefixOf (skip r)=false) (h4:[44].isPrefixOf (skip r)=true) (st:RR w1 b s ((skip r).drop 1) v' (L0++⟨kd,key,[],((P++[v1::l2]).length:Int)⟩::(P++[v1::l2]).flatten) 0) (k:Stp w w1 b v v'):
  KS w b s v L0 kd key o d F R g (ks++[k1]) (P++[v1::l2]) ((skip r).drop 1) v' w1:=by
 obtain ⟨n1,n2,n3⟩:=nm_key hn
 obtain ⟨_,f2,f3,v2,l3,t,f4,f5,f6⟩:=val_facts n1 n2 hv
 injection f4 with f4 f4'
 subst f4 f4'
 have hfu:=h.fuel
 have hfw:=h.few
 have hle:=h.le
 have hsk:=skip_len r
 have el:(L0++⟨kd,key,[],((P++[v1::l2]).length:Int)⟩::(P++[v1::l2]).flatten).length=(L0++⟨kd,key,[],(P.length:Int)⟩::P.flatten).length+(v1::l2).length:=by
  simp only [List.length_append,List.length_cons,List.flatten_append,List.flatten_cons,List.flatten_nil,List.append_nil]
  omega
 have ep:(P++[v1::l2]).length=P.length+1:=by rw [List.length_append,List.length_singleton]
 have ef:(P++[v1::l2]).flatten=P.flatten++(v1::l2):=by rw [List.flatten_append,List.flatten_cons,List.flatten_nil,List.append_nil]
 refine ⟨st,k,by rw [←f5];exact h.parts.snoc f6, ?_, ?_, ?_,by omega⟩
 ·rw [h.res,el,ef,ep,kid_more (n:=P.length) (l:=P.flatten) ((nm_rev o ks u).trans hn) hv h3 h4,List.reverse_append]
  rfl
 ·rw [List.length_drop]
  obtain ⟨q,hq⟩:=pre_one.1 h4
  rw [hq,List.length_cons]at hsk ⊢
  omega
 ·rw [el]
  exact f3
end
end Go.Proofs.YtgmangikcfakgaaGreatDoor
