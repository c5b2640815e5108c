import Derived.Test.YtgmangikcfakgaaGreatDoorPA18
import Derived.Lib.AppendStr
set_option maxRecDepth 100000
set_option maxHeartbeats 40000000
namespace Go.Proofs.YtgmangikcfakgaaGreatDoor
open Go Sh
namespace Js
open Jt
def joinC:List (List UInt8)→List UInt8
 | []=> []
 | [x]=> x
 | x::y::r=> x++44::joinC (y::r)
theorem qk3:∀(T:List (List UInt8)) (x:List UInt8),joinC (T++[x])=if T=[] then x else joinC T++44::x
 | [],x=> rfl
 | [a],x=> rfl
 | a::b::r,x=> by
  have ih:=qk3 (b::r) x
  rw [if_neg (List.cons_ne_nil _ _)]at ih ⊢
  show a++44::joinC ((b::r)++[x])=(a++44::joinC (b::r))++44::x
  rw [ih,List.append_assoc];rfl
theorem qrz {d:Nat} {o:Bool} {ks:List (List UInt8)} {P:List (List V)} (h:Parts d o ks P):∃T:List (List UInt8),T.length=P.length∧Rows d o ks P.flatten (joinC T)∧
  ∀j (hj:j < P.length) (hj2:j < T.length),∃v l t,P[j]=v::l∧One d o v l t∧T[j]=item o v t:=by
 induction h with
 | nil=> exact ⟨[],rfl, .nil _ _,fun j hj=> absurd hj (Nat.not_lt_zero _)⟩
 | @cons v l t ks P h r ih=>
  obtain ⟨T,t1,t2,t3⟩:=ih
  obtain ⟨ks0,q1,q2,q3⟩:=h.kids
  refine ⟨item o v t::T,by rw [List.length_cons,List.length_cons,t1], ?_,fun j hj hj2=> ?_⟩
  ·rw [List.flatten_cons]
   match ks,T,t1,t2 with
   | [],T,t1,t2=>
    obtain ⟨e1,e2⟩:=qay t2 rfl
    have hP:P=[]:=List.eq_nil_of_length_eq_zero r.len
    subst hP;have hT:T=[]:=List.eq_nil_of_length_eq_zero t1
    subst hT;rw [List.flatten_nil,List.append_nil];exact h.rows
   | k::ks,[],t1,t2=>
    have:=r.len
    rw [←t1]at this
    cases this
   | k::ks,y::T,t1,t2=> exact .more h.own h.deep q1 q2 q3 t2
  ·cases j with
   | zero=> exact ⟨v,l,t,rfl,h,rfl⟩
   | succ j=> exact t3 j (by rw [List.length_cons]at hj;omega) (by rw [List.length_cons]at hj2;omega)
theorem qqg:∀(T:List (List UInt8)) (j:Nat) (hj:j < T.length),T[j].length≤(joinC T).length
 | [],j,hj=> absurd hj (Nat.not_lt_zero _)
 | [x],j,hj=> by
  have:j=0:=by simp at hj;exact hj
  subst this;exact Nat.le_refl _
 | x::y::r,j,hj=> by
  have e:joinC (x::y::r)=x++44::joinC (y::r):=rfl
  rw [e,List.length_append,List.length_cons];cases j with
  | zero=>
   rw [List.getElem_cons_zero];omega
  | succ j=>
   have:=qqg (y::r) j (by rw [List.length_cons]at hj;omega)
   rw [List.getElem_cons_succ];omega
theorem qkv (T:List (List UInt8)) (k:Nat) (h:k < T.length):joinC (T.take (k+1))=if k=0 then T[k] else joinC (T.take k)++44::T[k]:=by
 rw [List.take_succ_eq_append_getElem h,qk3]
 by_cases h0:k=0
 ·subst h0
  rw [if_pos List.take_zero,if_pos rfl]
 ·rw [if_neg h0,if_neg]
  intro e;have:=congrArg List.length e
  rw [List.length_take,List.length_nil]at this
  omega
theorem qt9 (T:List (List UInt8)):∀k,k≤T.length→(joinC (T.take k)).length≤(joinC T).length:=by
 have step:∀k,k < T.length→(joinC (T.take k)).length≤(joinC (T.take (k+1))).length:=fun k hk=> by
  rw [qkv T k hk];split
  next h0=> subst h0;exact Nat.zero_le _
  ·rw [List.length_append];omega
 have all:∀m k,k+m=T.length→(joinC (T.take k)).length≤(joinC T).length:=by
  intro m;induction m with
  | zero=>
   intro k hk;rw [List.take_of_length_le (by omega)];exact Nat.le_refl _
  | succ m ih=>
   intro k hk;exact Nat.le_trans (step k (by omega)) (ih (k+1) (by omega))
 intro k hk
 exact all (T.length - k) k (by omega)
end Js
end Go.Proofs.YtgmangikcfakgaaGreatDoor
namespace Go.Proofs.YtgmangikcfakgaaGreatDoor
open Go.RowKit Sh Jt Js
structure Stq (w w':World) (v v':Value):Prop where
 kept:Kept w w' (fun k=> v.ownBlock=some k)
 fresh:∀k,v'.ownBlock=some k→v.ownBlock=some k∨w.heap.size≤k
theorem Stq.refl (w:World) (v:Value):Stq w w v v:=⟨Kept.refl _ _,fun _ h=> .inl h⟩
theorem Stq.trans {w w1 w2:World} {v v1 v2:Value} (h:Stq w w1 v v1) (k:Stq w1 w2 v1 v2):Stq w w2 v v2:=by
 refine ⟨⟨k.kept.os.trans h.kept.os,k.kept.tape.trans h.kept.tape,k.kept.output.trans h.kept.output,Nat.le_trans h.kept.size k.kept.size,fun i hi hn=> ?_⟩,fun i hi=> ?_⟩
 ·refine (k.kept.block i (Nat.lt_of_lt_of_le hi h.kept.size) (fun hh=> ?_)).trans (h.kept.block i hi hn)
  rcases h.fresh i hh with h2 | h2
  ·exact hn h2
  ·omega
 ·rcases k.fresh i hi with h2 | h2
  ·exact h.fresh i h2
  ·exact .inr (Nat.le_trans h.kept.size h2)
theorem Stq.of_below {w w':World} (h:Below w.heap.size w w') (v:Value):Stq w w' v v:=⟨Kept.of_below h (fun _ hk _=> hk),fun _ h=> .inl h⟩
theorem Stq.below {w w':World} {v v':Value} (h:Stq w w' v v') {B:Nat} (hB:B≤w.heap.size) (ho:∀k,v.ownBlock=some k→B≤k):Below B w w':=h.kept.below hB fun k hk hh=> by
 have:=ho k hh
 omega
theorem OwnBytes.block {w:World} {B:Nat} {v:Value} {bs:List UInt8} (h:OwnBytes w B v bs) {k:Nat} (hk:v.ownBlock=some k):B≤k∧k < w.heap.size:=by
 obtain ⟨_,⟨rfl,_⟩ | ⟨g,cap,cur,rfl,hg,hh,_⟩⟩:=h
 ·cases hk
 ·obtain rfl:g=k:=Option.some.inj hk
  exact ⟨hg,(Array.getElem?_eq_some_iff.1 hh).1⟩
theorem OwnBytes.below {w w':World} {B:Nat} {v:Value} {bs:List UInt8} (h:OwnBytes w B v bs) (k:Below w.heap.size w w'):OwnBytes w' B v bs:=h.kept (qad k) (fun _ _ h=> h)
theorem qxm {w w':World} {B:Nat} {v v':Value} {bs cs:List UInt8} {ty:TypeId} (hown:OwnBytes w B v bs) (hb:bs.length+cs.length≤1099511627776)
  (hr:(Builtin.append_ #[22,9] ty #[v, .string (sb cs)]).run Tryz.prog w= .ok v' w') (h4:v'= .slice none 0 0↔v= .slice none 0 0∧(sb cs).size=0):∀k,v'.ownBlock=some k→v.ownBlock=some k∨w.heap.size≤k:=by
 obtain ⟨i,hi,hz,hsz,hby⟩:=infoByte
 intro k hk
 have hown2:=hown
 have hss:=qag cs
 obtain ⟨hl,⟨rfl,h0⟩ | ⟨g,cap,cur,rfl,hg,hh,hn,hc,hs,ht⟩⟩:=hown
 ·by_cases hm:(sb cs).size=0
  ·rw [h4.2 ⟨rfl,hm⟩]at hk
   cases hk
  ·have h1:=run_append_nil_string (P:=Tryz.prog) w 22 9 ty 5 i _ Tryz.underlying22 Tryz.underlying9 hi hz (sb cs) (by omega) (by rw [qag];omega) (by rw [hby,qag];omega)
   rw [h1]at hr
   injection hr with e1 e2
   rw [←e1]at hk
   exact .inr (Nat.le_of_eq (Option.some.inj hk))
 ·by_cases hroom:bs.length+(sb cs).size≤cap
  ·have h1:=Lib.run_append_room_string (P:=Tryz.prog) w 22 9 ty 5 i Tryz.underlying22 Tryz.underlying9 hi hsz g bs.length cap cur hh (sb cs) hroom (by rw [hs,Nat.mul_one];exact hroom)
   rw [h1]at hr
   injection hr with e1 e2
   rw [←e1]at hk
   exact .inl hk
  ·have h1:=Lib.run_append_grow_string (P:=Tryz.prog) w 22 9 ty 5 i _ Tryz.underlying22 Tryz.underlying9 hi hz ⟨g,0,none⟩ bs.length cap (bs.map v8) (by rw [hsz,List.length_map,Nat.mul_one]) (fun j u hj=> hown2.cells (g:=g) rfl j u hj) (sb cs) (by omega) (by rw [qag];omega) (by rw [hby];exact growslice_fits (by rw [qag];omega) (by rw [qag];omega))
   rw [h1]at hr
   injection hr with e1 e2
   rw [←e1]at hk
   exact .inr (Nat.le_of_eq (Option.some.inj hk))
theorem qbv {w:World} {ops:Array Oper} {rest:List Oper} {o:Oper} {a:Act} {Q:Exit→Act→World→Prop} (hgd:o.guard=none) (s x:Operand)
  (ho:o.op= .call {callee:= .builtin .append,args:=#[s,x],argTypes:=#[22,9]}) (B:Nat) (v:Value) (bs:List UInt8) (hs:a.eval s=v) (hown:OwnBytes w B v bs)
  (cs:List UInt8) (hx:a.eval x= .string (sb cs)) (hb:bs.length+cs.length≤1099511627776) (hB:B≤w.heap.size)
  (h:∀v' w',Hid (OwnBytes w' B v' (bs++cs))→Hid (Stq w w' v v')→wpList Tryz.prog ops Q rest (a.put o.dst v') w'):wpList Tryz.prog ops Q (o::rest) a w:=by
 obtain ⟨i,hi,hz,hsz,hby⟩:=infoByte
 obtain ⟨v',w',hr,h2,h3,h4⟩:=Lib.run_append_own_string (P:=Tryz.prog) w B 22 9 o.type 5 i Tryz.underlying22 Tryz.underlying9 hi hz hsz hby v bs.length (bs.map v8) hown (sb cs) (by rw [qag];unfold maxLen;omega) (by rw [qag];omega) hB
 refine qa5 (by simp [Region.wanted,hgd]) fun K hK=> ?_
 unfold Oper.wp execOp
 simp only [ho,resolve,invoke,builtin,Sem.run_bind,Sem.run_pure,Result.andThen_ok,List.map_toArray,List.map_cons,List.map_nil,hs,hx,hr]
 refine hK _ _ (h v' w' ?_ ?_)
 ·show w'.ownsRow B _ 1 v' (bs++cs).length ((bs++cs).map v8)
  rw [List.length_append,List.map_append];exact h2
 ·exact ⟨⟨h3.os,h3.tape,h3.output,h3.size,fun k hk hn=> h3.block k hk (fun e=> hn e.symm)⟩,qxm hown hb hr h4⟩
theorem OwnBytes.slice {w:World} {B:Nat} {v:Value} {bs:List UInt8} (h:OwnBytes w B v bs):∃A c,v= .slice A bs.length c:=by
 obtain ⟨A,c,rfl,_⟩:=h.bytes
 exact ⟨A,c,rfl⟩
def PutPost (w:World) (B:Nat) (val:Value) (r:List UInt8) (e:Ending) (w':World):Prop:=∃val',e= .returned val'∧OwnBytes w' B val' r∧Stq w w' val val'
structure Dis (w:World) (b:Nat) (A:Option Addr) (n:Nat) (val:Value):Prop where
 lt:b < w.heap.size
 ne:∀k,val.ownBlock=some k→k≠b
 had:0 < n→∀g,A=some ⟨g,0,none⟩→g < w.heap.size∧∀k,val.ownBlock=some k→k≠g
theorem Dis.stq {w w':World} {b n:Nat} {A:Option Addr} {val val':Value} (h:Dis w b A n val) (k:Stq w w' val val'):Dis w' b A n val':=by
 have hs:=k.kept.size
 refine ⟨by have:=h.lt;omega,fun i hi=> ?_,fun h0 g hg=> ⟨by have:=(h.had h0 g hg).1;omega,fun i hi=> ?_⟩⟩
 ·rcases k.fresh i hi with h2 | h2
  ·exact h.ne i h2
  ·have:=h.lt
   omega
 ·rcases k.fresh i hi with h2 | h2
  ·exact (h.had h0 g hg).2 i h2
  ·have:=(h.had h0 g hg).1
   omega
theorem ValsAt.stq {w w':World} {b o n c:Nat} {L:List V} {val val':Value} (h:ValsAt w (some ⟨b,o,none⟩) n c L) (k:Stq w w' val val') (hn:∀k,val.ownBlock=some k→k≠b):ValsAt w' (some ⟨b,o,none⟩) n c L:=
 h.kept k.kept (fun b' o' e _ hk=> by
  simp only [Option.some.injEq,Addr.mk.injEq]at e
  exact hn b' hk (e.1.symm))
theorem PtIn.stq {w w':World} {b:Nat} {p:Pt} {val val':Value} (h:PtIn w b p) (k:Stq w w' val val') (hn:∀k,val.ownBlock=some k→k≠b):PtIn w' b p:=⟨h.1,h.2.stq k hn⟩
theorem RowsAt.stq {w w':World} {B b:Nat} {A:Option Addr} {n:Nat} {Q:List Pt} {val val':Value} (h:RowsAt w B b A n Q) (k:Stq w w' val val') (hd:Dis w b A n val):RowsAt w' B b A n Q:=
 ⟨h.len,fun h0=> by
  obtain ⟨g,e,hB,r⟩:=h.at_ h0
  exact ⟨g,e,hB,k.kept.row r (fun hk=> (hd.had h0 g e).2 g hk rfl)⟩,fun p hp=> PtIn.stq (h.ins p hp) k hd.ne⟩
theorem RowsAt.mono {w:World} {B B' b:Nat} {A:Option Addr} {n:Nat} {Q:List Pt} (h:RowsAt w B b A n Q) (hB:B'≤B):RowsAt w B' b A n Q:=
 ⟨h.len,fun h0=> by
  obtain ⟨g,e,hb,r⟩:=h.at_ h0
  exact ⟨g,e,Nat.le_trans hB hb,r⟩,h.ins⟩
theorem RdEnv.stq {B:Nat} {w w':World} {val val':Value} {bs:List UInt8} (h:RdEnv B w) (k:Stq w w' val val') (ho:OwnBytes w B val bs):RdEnv B w':=
 h.kept k.kept fun i hi hk=> by
  have:=(ho.block hk).1
  omega
structure PutIs (lim gid:Nat) (b:Nat) (Q:List Pt) (T:List (List UInt8)):Prop where
 enters:∀args w,(callFunc gid args).run Tryz.prog w= .ok (.enter gid args) w
 call:∀j (hj:j < Q.length) (hj2:j < T.length) (w:World) (B:Nat) (val:Value) (bs:List UInt8),OwnBytes w B val bs→B≤w.heap.size→RdEnv B w→PtIn w b Q[j]→b < w.heap.size→(∀k,val.ownBlock=some k→k≠b)→
  bs.length+T[j].length≤lim→Calls Tryz.prog gid #[val,Q[j].enc b] w (PutPost w B val (bs++T[j]))
structure PS (w:World) (B b:Nat) (A:Option Addr) (n:Nat) (Q:List Pt) (val:Value) (r:List UInt8) (wx:World) (vx:Value) (rx:List UInt8):Prop where
 own:OwnBytes wx B vx rx
 step:Stq w wx val vx
 rows:RowsAt wx B b A n Q
 dis:Dis wx b A n vx
 env:RdEnv B wx
theorem PS.next {w:World} {B b:Nat} {A:Option Addr} {n:Nat} {Q:List Pt} {val:Value} {r:List UInt8} {wx wy:World} {vx vy:Value} {rx ry:List UInt8} (h:PS w B b A n Q val r wx vx rx) (o:OwnBytes wy B vy ry) (k:Stq wx wy vx vy):PS w B b A n Q val r wy vy ry:=
 ⟨o,h.step.trans k,h.rows.stq k h.dis,h.dis.stq k,h.env.stq k h.own⟩
theorem qji (w:World) (B b:Nat) (A:Option Addr) (n:Nat) (Q:List Pt) (T:List (List UInt8)) (lim gid:Nat) (H:PutIs lim gid b Q T) (f l:List UInt8) (val:Value) (bs:List UInt8) (hR:RowsAt w B b A n Q) (_hA:A=none→n=0) (hD:Dis w b A n val) (hE:RdEnv B w)
  (ho:OwnBytes w B val bs) (hB:B≤w.heap.size) (hT:T.length=Q.length) (hf:f.length=1) (hl:l.length=1) (hn:n≤250000) (hlen:bs.length+(joinC T).length+2≤lim) (hlim:lim≤100000000000):
  Calls Tryz.prog 109 #[val, .string (sb f), .string (sb l), .slice A n n, .func (.func gid) #[] #[]] w (PutPost w B val (bs++(f++(joinC T++l)))):=by
 have HS:=Qh (PS.mk (w:=w) (val:=val) (r:=bs) ho (Stq.refl _ _) hR hD hE)
 have HH:=Qh H
 have eg:=H.enters
 have HMO:=Qh (qt9 T)
 have HQL:=hR.len
 have HJL:=Qh (fun j hj=> qqg T j hj)
 have HTK:=Qh (qkv T)
 clear hR hD hE ho H _hA
 go_enter Tryz.func109,Tryz.ntmps109
 go_wp2_with (first
  | (at_builtin;go_must (with_reducible refine qbv rfl _ _ rfl B val bs rfl HS.out.own f rfl (by omega) hB ?_;intro v1 w1 h1 h2;have HS1:=Qh (HS.out.next h1.out h2.out);clear h1 h2)))
 have hB1:Hid (B≤w1.heap.size):=Qh (Nat.le_trans hB HS1.out.step.kept.size)
 go_loopg [0,18] n (fun g vb vk wx=> ∃j:Nat,vk= .int .i64 (j:Int)∧j+g=n∧Hid (PS w B b A n Q val bs wx vb (bs++f++joinC (T.take j))))
 case atStart=> exact ⟨0,rfl,by omega,Qh (by rw [List.take_zero,show joinC []=[]from rfl,List.append_nil];exact HS1.out)⟩
 case round=>
  obtain ⟨j,rfl,hjg,HX⟩:=hrel
  have hBx:Hid (B≤wr.heap.size):=Qh (Nat.le_trans hB HX.out.step.kept.size)
  cases gk with
  | zero=>
   obtain rfl:j=n:=by omega
   have hge:¬(j:Int) < (j:Int):=by omega
   have hrl:(bs++f++joinC (T.take j)).length+l.length≤1099511627776:=by
    have:=HMO.out j (by omega)
    rw [List.length_append,List.length_append];omega
   have HF:=Qh (show bs++f++joinC (T.take j)++l=bs++(f++(joinC T++l))by rw [List.take_of_length_le (by omega),List.append_assoc,List.append_assoc])
   generalize bs++f++joinC (T.take j)=rx at*;clear HS HS1;go_wp2_with (first
    | (at_builtin;go_must (with_reducible refine qbv rfl _ _ rfl B u0 rx rfl HX.out.own l rfl hrl hBx.out ?_;intro v2 w2 h1 h2;have HS2:=Qh (HX.out.next h1.out h2.out);clear h1 h2)))
   go_ret;exact ⟨_,rfl,by rw [←HF.out];exact HS2.out.own,HS2.out.step⟩
  | succ g=>
   have hj:j < Q.length:=by omega
   have hj2:j < T.length:=by omega
   obtain ⟨gb,rfl,hgB,rr⟩:=HX.out.rows.at_ (by omega)
   have cc:wr.cell? ⟨gb,j,none⟩=some (Pt.enc b Q[j]):=rr.cell (by rw [List.getElem?_map,List.getElem?_eq_getElem hj];rfl)
   have hjn:(j:Int) < (n:Int):=by omega
   have hrl:(bs++f++joinC (T.take j)).length+1+T[j].length≤lim:=by
    have h1:=HMO.out (j+1) (by omega)
    have h2:(joinC (T.take j)).length+T[j].length+(if j=0 then 0 else 1)≤(joinC (T.take (j+1))).length:=by
     rw [HTK.out j hj2];by_cases h0:j=0
     ·rw [if_pos h0,if_pos h0]
      have h3:(joinC (T.take j)).length=0:=by subst h0;rfl
      omega
     ·rw [if_neg h0,if_neg h0,List.length_append,List.length_cons]
      omega
    rw [List.length_append,List.length_append];split at h2 <;> omega
   have HTJ:=Qh (HTK.out j hj2)
   have HC:=Qh (fun wx vx rx (hp:PS w B b (some ⟨gb,0,none⟩) n Q val bs wx vx rx) (hb:B≤wx.heap.size) (hrx:rx.length≤(bs++f++joinC (T.take j)).length+1)=> HH.out.call j hj hj2 wx B vx rx hp.own hb hp.env (hp.rows.ins _ (List.getElem_mem hj)) hp.dis.lt hp.dis.ne (by omega))
   unfold Pt.enc at cc HC;clear rr HS HS1;generalize Q[j]=p at*;obtain ⟨o1,cp1,row1⟩:=p
   dsimp only at*
   generalize row1.length=rl at*;generalize T[j]=tj at*;by_cases hz:j=0
   ·subst hz
    have HRX:=Qh (show bs++f++joinC (T.take 0)++tj=bs++f++joinC (T.take (0+1))from by rw [HTJ.out,if_pos rfl,List.take_zero,show joinC []=[]from rfl,List.append_nil])
    have HCC:=Qh (HC.out wr u0 _ HX.out hBx.out (by omega))
    clear HC HTJ;generalize bs++f++joinC (T.take 0)=rx at*;go_wp2_with fail;refine HCC.out.mono ?_
    rintro e w2 ⟨v3,rfl,P1,P2⟩;have HN:=Qh (HX.out.next P1 P2)
    rw [HRX.out]at HN
    clear P1 P2 HCC cc;go_wp2_with fail;go_roundg g
    case measure=> omega
    case rel=> exact ⟨0+1,by go_num,by omega,HN⟩
   ·have hjz:(0:Int) < (j:Int):=by omega
    have HRX:=Qh (show bs++f++joinC (T.take j)++[44]++tj=bs++f++joinC (T.take (j+1))from by rw [HTJ.out,if_neg hz,List.append_assoc,List.append_assoc];rfl)
    clear HTJ;have hrl2:(bs++f++joinC (T.take j)).length+([44]:List UInt8).length≤1099511627776:=by
     rw [List.length_singleton];omega
    have hlen3:(bs++f++joinC (T.take j)++[44]).length≤(bs++f++joinC (T.take j)).length+1:=by
     rw [List.length_append (bs:=[44])];exact Nat.le_refl _
    generalize bs++f++joinC (T.take j)=rx at*;go_wp2_with (first
     | (at_builtin;go_must (with_reducible refine qbv rfl _ _ rfl B u0 rx rfl HX.out.own [44] rfl hrl2 hBx.out ?_;intro v2 w2 h1 h2;have HS2:=Qh (HX.out.next h1.out h2.out);have hsz2:=Qh (Nat.le_trans hBx.out h2.out.kept.size);have HCC:=Qh (HC.out w2 v2 _ HS2.out hsz2.out hlen3);clear h1 h2)))
    refine HCC.out.mono ?_
    rintro e w3 ⟨v3,rfl,P1,P2⟩;have HN:=Qh (HS2.out.next P1 P2)
    rw [HRX.out]at HN
    clear P1 P2 HCC cc HS2 hsz2 HC;go_wp2_with fail;go_roundg g
    case measure=> omega
    case rel=> exact ⟨j+1,by go_num,by omega,HN⟩
end Go.Proofs.YtgmangikcfakgaaGreatDoor
namespace Go.Proofs.YtgmangikcfakgaaGreatDoor
open Go.RowKit Go.Maps Go.WideMaps Sh Jt Js
def AddP (m:Nat):Prop:=∀(lim d:Nat) (ob:Bool) (v:V) (l:List V) (t:List UInt8) (w:World) (B b o c:Nat) (val:Value) (bs:List UInt8),d+m=50→lim≤100000000000→One d ob v l t→ValsAt w (some ⟨b,o,none⟩) (v::l).length c (v::l)→
 b < w.heap.size→(∀k,val.ownBlock=some k→k≠b)→OwnBytes w B val bs→B≤w.heap.size→RdEnv B w→Short 1048576 (v::l)→(v::l).length≤5000→bs.length+(body v t).length≤lim→
 Calls Tryz.prog 73 #[val, .slice (some ⟨b,o,none⟩) (v::l).length c] w (PutPost w B val (bs++body v t))
def MemP (m:Nat):Prop:=∀(lim d:Nat) (v:V) (l:List V) (t:List UInt8) (w:World) (B b o c:Nat) (val:Value) (bs:List UInt8),d+m=50→lim≤100000000000→One d true v l t→ValsAt w (some ⟨b,o,none⟩) (v::l).length c (v::l)→
 b < w.heap.size→(∀k,val.ownBlock=some k→k≠b)→OwnBytes w B val bs→B≤w.heap.size→RdEnv B w→Short 1048576 (v::l)→(v::l).length≤5000→bs.length+(item true v t).length≤lim→
 Calls Tryz.prog 110 #[val, .slice (some ⟨b,o,none⟩) (v::l).length c] w (PutPost w B val (bs++item true v t))
theorem qp9 {m:Nat} (hA:AddP m):MemP m:=by
 intro lim d v l t w B b o c val bs hd hlim h1 hL hb hne ho hB hE hs hl hlen
 have eit:item true v t=quoteF v.key++([58]++body v t):=rfl
 obtain ⟨c0,c1,c2,c3⟩:=hL.head
 have hn0:(0:Int) < ((v::l).length:Int):=by rw [List.length_cons];omega
 have HQ:=Qh (qp3 w v.key (by have:=(hs v List.mem_cons_self).1;omega))
 rw [eit]at hlen ⊢
 rw [List.length_append,List.length_append,List.length_singleton]at hlen
 have HAJ:=Qh (fun wx vx (k:Stq w wx val vx) (o2:OwnBytes wx B vx (bs++quoteF v.key++[58]))=> hA lim d true v l t wx B b o c vx _ hd hlim h1 (hL.stq k hne) (by have:=k.kept.size;omega) (fun i hi=> by
  rcases k.fresh i hi with h2 | h2
  ·exact hne i h2
  ·omega) o2 (Nat.le_trans hB k.kept.size) (hE.stq k ho) hs hl (by rw [List.length_append,List.length_append,List.length_singleton];omega))
 have HOW:=Qh ho
 have HFIN:=Qh (show bs++quoteF v.key++[58]++body v t=bs++(quoteF v.key++([58]++body v t))by rw [List.append_assoc,List.append_assoc])
 have hl1:bs.length+(quoteF v.key).length≤1099511627776:=by omega
 have hl2:(bs++quoteF v.key).length+([58]:List UInt8).length≤1099511627776:=by rw [List.length_append,List.length_singleton];omega
 clear hL ho hE hA h1 hs eit hlen hl
 generalize body v t=bd at*
 generalize quoteF v.key=qk at*
 generalize (v::l).length=n at*
 generalize sb v.key=K at*
 go_enter Tryz.func110,Tryz.ntmps110
 go_wp2_with fail
 refine HQ.out.mono ?_
 rintro e w2 ⟨rfl,B2⟩
 have HOW2:=Qh (HOW.out.below B2)
 have HS2:=Qh (Stq.of_below B2 val)
 have hB2:B≤w2.heap.size:=Nat.le_trans hB B2.size
 clear B2 HQ c0 c1 c2 c3 HOW
 go_upto_region 2 with (first
  | (at_builtin;go_must (with_reducible refine qbv rfl _ _ rfl B val bs rfl HOW2.out qk rfl hl1 hB2 ?_;intro v3 w3 h1 h2;have HOW3:=h1;have HS3:=Qh (HS2.out.trans h2.out);clear h1 h2)))
 have hB3:=Qh (Nat.le_trans hB HS3.out.kept.size)
 go_wp2_with (first
  | (at_builtin;go_must (with_reducible refine qbv rfl _ _ rfl B v3 (bs++qk) rfl HOW3.out [58] rfl hl2 hB3.out ?_;intro v4 w4 h1 h2;have HAA:=Qh (HAJ.out w4 v4 (HS3.out.trans h2.out) h1.out);have HS4:=Qh (HS3.out.trans h2.out);clear h1 h2)))
 refine HAA.out.mono ?_
 rintro e w5 ⟨v5,rfl,P1,P2⟩
 have HX:=Qh (And.intro P1 (HS4.out.trans P2))
 rw [HFIN.out]at HX
 clear P1 P2 HAA HAJ HS4 HS3 HOW3
 go_wp2_with fail
 go_ret
 exact ⟨v5,rfl,HX.out.1,HX.out.2⟩
theorem qju {d:Nat} {ob:Bool} {v:V} {l:List V} {t:List UInt8} (h:One d ob v l t):endP (v::l) 1=some (l.length+1):=by
 have:=qcr h []
 rw [List.append_nil]at this
 exact this
theorem qxo {d:Nat} {ob:Bool} {v:V} {l:List V} {t:List UInt8} (h:One d ob v l t):∃T:List (List UInt8),t=joinC T∧T.length=(ownParts v l).length∧
  ∀j (hj:j < (ownParts v l).length) (hj2:j < T.length),∃v2 l2 t2,(ownParts v l)[j]=v2::l2∧One (d+1) (isObj v) v2 l2 t2∧T[j]=item (isObj v) v2 t2:=by
 obtain ⟨ks,h1,h2,h3,h4,_⟩:=qcp h []
 rw [List.append_nil]at h1 h4
 obtain ⟨T,t1,t2,t3⟩:=qrz h1
 obtain ⟨ks0,q1,q2,_⟩:=h.kids
 rw [h4]at t2
 have:=qpr q1 _ _ _ _ [] [] t2 (by omega) rfl
 exact ⟨T,this.2.2,t1,t3⟩
theorem qmz {v:V} {l:List V} {M:Nat} (h:endP (v::l) 1=some (l.length+1)) (hs:Short M (v::l)):∀p∈ownParts v l,Short M p:=fun p hp x hx=> hs x (List.mem_cons_of_mem _ (((qc9 h).2 p hp).2 x hx))
theorem qz2 {m lim d:Nat} {v:V} {l:List V} {T:List (List UInt8)} (hA:AddP m) (hd:d+m=50) (hlim:lim≤100000000000) (he:endP (v::l) 1=some (l.length+1)) (hs:Short 1048576 (v::l)) (hl:(v::l).length≤5000) (b o c:Nat)
  (hT:∀j (_:j < (ownParts v l).length) (_:j < T.length),∃v2 l2 t2,(ownParts v l)[j]=v2::l2∧One d false v2 l2 t2∧T[j]=item false v2 t2):PutIs lim 73 b (ptsOf o c (ownParts v l)) T:=by
 refine ⟨enters_of Tryz.func73 (by kernel_rfl) rfl, ?_⟩
 intro j hj hj2 w B val bs ho hB hE hp hb hne hlen
 have hjP:j < (ownParts v l).length:=by rw [qde]at hj;exact hj
 have hq:=ql6 o c (ownParts v l) j hjP
 obtain ⟨v2,l2,t2,e1,e2,e3⟩:=hT j hjP hj2
 have e4:T[j]=body v2 t2:=e3
 rw [hq]at hp ⊢
 unfold PtIn at hp
 unfold Pt.enc
 dsimp only at hp ⊢
 rw [e4]at hlen ⊢
 have hmem:(ownParts v l)[j]∈ownParts v l:=List.getElem_mem hjP
 have hs2:=qmz he hs _ hmem
 have hl2:=qgo he _ hmem
 rw [e1]at hp hs2 hl2 ⊢
 exact hA lim d false v2 l2 t2 w B b _ _ val bs hd hlim e2 hp.2 hb hne ho hB hE hs2 (by rw [List.length_cons]at hl;omega) hlen
theorem q2g {m lim d:Nat} {v:V} {l:List V} {T:List (List UInt8)} (hA:MemP m) (hd:d+m=50) (hlim:lim≤100000000000) (he:endP (v::l) 1=some (l.length+1)) (hs:Short 1048576 (v::l)) (hl:(v::l).length≤5000) (b o c:Nat)
  (hT:∀j (_:j < (ownParts v l).length) (_:j < T.length),∃v2 l2 t2,(ownParts v l)[j]=v2::l2∧One d true v2 l2 t2∧T[j]=item true v2 t2):PutIs lim 110 b (ptsOf o c (ownParts v l)) T:=by
 refine ⟨enters_of Tryz.func110 (by kernel_rfl) rfl, ?_⟩
 intro j hj hj2 w B val bs ho hB hE hp hb hne hlen
 have hjP:j < (ownParts v l).length:=by rw [qde]at hj;exact hj
 have hq:=ql6 o c (ownParts v l) j hjP
 obtain ⟨v2,l2,t2,e1,e2,e3⟩:=hT j hjP hj2
 rw [hq]at hp ⊢
 unfold PtIn at hp
 unfold Pt.enc
 dsimp only at hp ⊢
 rw [e3]at hlen ⊢
 have hmem:(ownParts v l)[j]∈ownParts v l:=List.getElem_mem hjP
 have hs2:=qmz he hs _ hmem
 have hl2:=qgo he _ hmem
 rw [e1]at hp hs2 hl2 ⊢
 exact hA lim d v2 l2 t2 w B b _ _ val bs hd hlim e2 hp.2 hb hne ho hB hE hs2 (by rw [List.length_cons]at hl;omega) hlen
theorem qy0 {d:Nat} {ob:Bool} {v:V} {l:List V} {t:List UInt8} (h:One d ob v l t):(v.kind=0∨v.kind=1∨v.kind=2)∨v.kind=3∨v.kind=4∨v.kind=5∨v.kind=6:=by
 obtain ⟨_,_,h | h | h | h⟩:=h.own
 ·exact .inl h.1
 ·exact .inr (.inl h.1)
 ·exact .inr (.inr (.inl h.1))
 ·rcases h.1 with h | h
  ·exact .inr (.inr (.inr (.inl h)))
  ·exact .inr (.inr (.inr (.inr h)))
theorem qtt:∀m,AddP m:=by
 intro m
 induction m with
 | zero=>
  intro lim d ob v l t w B b o c val bs hd hlim h1;have:=h1.deep
  omega
 | succ m ih=>
  intro lim d ob v l t w B b o c val bs hd hlim h1 hL hb hne ho hB hE hs hl hlen;have he:=qju h1
  obtain ⟨T,hT1,hT2,hT3⟩:=qxo h1
  have hob:=qy0 h1
  obtain ⟨c0,c1,c2,c3⟩:=hL.head
  have hn0:(0:Int) < ((v::l).length:Int):=by rw [List.length_cons];omega
  have HOW:=Qh ho
  have HL:=Qh hL
  have hcap:=hL.cap
  rcases hob with hk | hk | hk | hk | hk
  ·obtain ⟨k,key,tx,z⟩:=v
   dsimp only at hk c0 c1 c2 c3
   rcases hk with rfl | rfl | rfl
   ·have hbw:body ⟨0,key,tx,z⟩ t=([110,117,108,108]:List UInt8):=rfl
    rw [hbw]at hlen ⊢
    have hAL:=below_alloc' w (.cells #[.int .i64 0, .string (sb key), .string (sb tx), .int .i64 z] 72)
    have hwg:(w.alloc (.cells #[.int .i64 0, .string (sb key), .string (sb tx), .int .i64 z] 72)).cell? ⟨0,0,none⟩=some (.string (sb ([110,117,108,108]:List UInt8))):=(qad hAL).cell hE.w0 (fun h=> h)
    have HO2:=Qh (ho.below hAL)
    have HS2:=Qh (Stq.of_below hAL val)
    have hB2:=Qh (Nat.le_trans hB hAL.size)
    have hl1:bs.length+([110,117,108,108]:List UInt8).length≤1099511627776:=by omega
    clear ih hL hT3 hs hE h1 ho hlen hAL hbw;generalize ([110,117,108,108]:List UInt8)=wd at*;generalize (⟨0,key,tx,z⟩::l:List V).length=n at*;go_enter Tryz.func73,Tryz.ntmps73
    go_wp2_with (first
     | (at_builtin;go_must (with_reducible refine qbv rfl _ _ rfl B val bs rfl HO2.out wd rfl hl1 hB2.out ?_;intro v2 w2 h1 h2;have HX:=Qh (And.intro h1.out (HS2.out.trans h2.out));clear h1 h2)))
    go_ret;exact ⟨v2,rfl,HX.out.1,HX.out.2⟩
   ·have hbw:body ⟨1,key,tx,z⟩ t=([116,114,117,101]:List UInt8):=rfl
    rw [hbw]at hlen ⊢
    have hAL:=below_alloc' w (.cells #[.int .i64 1, .string (sb key), .string (sb tx), .int .i64 z] 72)
    have hwg:(w.alloc (.cells #[.int .i64 1, .string (sb key), .string (sb tx), .int .i64 z] 72)).cell? ⟨0,1,none⟩=some (.string (sb ([116,114,117,101]:List UInt8))):=(qad hAL).cell hE.w1 (fun h=> h)
    have HO2:=Qh (ho.below hAL)
    have HS2:=Qh (Stq.of_below hAL val)
    have hB2:=Qh (Nat.le_trans hB hAL.size)
    have hl1:bs.length+([116,114,117,101]:List UInt8).length≤1099511627776:=by omega
    clear ih hL hT3 hs hE h1 ho hlen hAL hbw;generalize ([116,114,117,101]:List UInt8)=wd at*;generalize (⟨1,key,tx,z⟩::l:List V).length=n at*;go_enter Tryz.func73,Tryz.ntmps73
    go_wp2_with (first
     | (at_builtin;go_must (with_reducible refine qbv rfl _ _ rfl B val bs rfl HO2.out wd rfl hl1 hB2.out ?_;intro v2 w2 h1 h2;have HX:=Qh (And.intro h1.out (HS2.out.trans h2.out));clear h1 h2)))
    go_ret;exact ⟨v2,rfl,HX.out.1,HX.out.2⟩
   ·have hbw:body ⟨2,key,tx,z⟩ t=([102,97,108,115,101]:List UInt8):=rfl
    rw [hbw]at hlen ⊢
    have hAL:=below_alloc' w (.cells #[.int .i64 2, .string (sb key), .string (sb tx), .int .i64 z] 72)
    have hwg:(w.alloc (.cells #[.int .i64 2, .string (sb key), .string (sb tx), .int .i64 z] 72)).cell? ⟨0,2,none⟩=some (.string (sb ([102,97,108,115,101]:List UInt8))):=(qad hAL).cell hE.w2 (fun h=> h)
    have HO2:=Qh (ho.below hAL)
    have HS2:=Qh (Stq.of_below hAL val)
    have hB2:=Qh (Nat.le_trans hB hAL.size)
    have hl1:bs.length+([102,97,108,115,101]:List UInt8).length≤1099511627776:=by omega
    clear ih hL hT3 hs hE h1 ho hlen hAL hbw;generalize ([102,97,108,115,101]:List UInt8)=wd at*;generalize (⟨2,key,tx,z⟩::l:List V).length=n at*;go_enter Tryz.func73,Tryz.ntmps73
    go_wp2_with (first
     | (at_builtin;go_must (with_reducible refine qbv rfl _ _ rfl B val bs rfl HO2.out wd rfl hl1 hB2.out ?_;intro v2 w2 h1 h2;have HX:=Qh (And.intro h1.out (HS2.out.trans h2.out));clear h1 h2)))
    go_ret;exact ⟨v2,rfl,HX.out.1,HX.out.2⟩
  ·obtain ⟨k,key,tx,z⟩:=v
   dsimp only at hk c0 c1 c2 c3
   subst hk;have hbw:body ⟨3,key,tx,z⟩ t=tx:=rfl
   rw [hbw]at hlen ⊢
   have hAL:=below_alloc' w (.cells #[.int .i64 3, .string (sb key), .string (sb tx), .int .i64 z] 72)
   have HO2:=Qh (ho.below hAL)
   have HS2:=Qh (Stq.of_below hAL val)
   have hB2:=Qh (Nat.le_trans hB hAL.size)
   have hl1:bs.length+tx.length≤1099511627776:=by omega
   clear ih hL hT3 hs hE h1 ho hlen hAL hbw;generalize (⟨3,key,tx,z⟩::l:List V).length=n at*;go_enter Tryz.func73,Tryz.ntmps73
   go_wp2_with (first
    | (at_builtin;go_must (with_reducible refine qbv rfl _ _ rfl B val bs rfl HO2.out tx rfl hl1 hB2.out ?_;intro v2 w2 h1 h2;have HX:=Qh (And.intro h1.out (HS2.out.trans h2.out));clear h1 h2)))
   go_ret;exact ⟨v2,rfl,HX.out.1,HX.out.2⟩
  ·obtain ⟨k,key,tx,z⟩:=v
   dsimp only at hk c0 c1 c2 c3
   subst hk;have hbw:body ⟨4,key,tx,z⟩ t=quoteF tx:=rfl
   rw [hbw]at hlen ⊢
   have hAL:=below_alloc' w (.cells #[.int .i64 4, .string (sb key), .string (sb tx), .int .i64 z] 72)
   have HQ:=Qh (qp3 (w.alloc (.cells #[.int .i64 4, .string (sb key), .string (sb tx), .int .i64 z] 72)) tx (by have:=(hs _ List.mem_cons_self).2;dsimp only at this;omega))
   have HO2:=Qh (fun w2 (k:Below (w.alloc (.cells #[.int .i64 4, .string (sb key), .string (sb tx), .int .i64 z] 72)).heap.size (w.alloc (.cells #[.int .i64 4, .string (sb key), .string (sb tx), .int .i64 z] 72)) w2)=> And.intro ((ho.below hAL).below k) (And.intro (Stq.of_below (hAL.trans (k.mono hAL.size)) val) (Nat.le_trans hB (Nat.le_trans hAL.size k.size))))
   have hl1:bs.length+(quoteF tx).length≤1099511627776:=by omega
   clear ih hL hT3 hs hE h1 ho hlen hAL hbw;generalize quoteF tx=qt at*;generalize (⟨4,key,tx,z⟩::l:List V).length=n at*;go_enter Tryz.func73,Tryz.ntmps73
   go_wp2_with fail;refine HQ.out.mono ?_
   rintro e w3 ⟨rfl,B3⟩;have HO3:=Qh (HO2.out w3 B3)
   clear B3 HQ HO2 c0 c1 c2 c3;go_wp2_with (first
    | (at_builtin;go_must (with_reducible refine qbv rfl _ _ rfl B val bs rfl HO3.out.1 qt rfl hl1 HO3.out.2.2 ?_;intro v2 w2 h1 h2;have HX:=Qh (And.intro h1.out (HO3.out.2.1.trans h2.out));clear h1 h2)))
   go_ret;exact ⟨v2,rfl,HX.out.1,HX.out.2⟩
  ·have hob:isObj v=false:=by unfold isObj;rw [hk];rfl
   have hbw:body v t=[91]++(joinC T++[93]):=by unfold body;rw [hk,hT1];rfl
   rw [hbw]at hlen ⊢
   rw [List.length_append,List.length_append,List.length_singleton,List.length_singleton]at hlen
   rw [hob]at hT3
   obtain ⟨q1,q2⟩:=qqe o c he hs hl
   have hn9:(v::l).length≤250000:=by omega
   have HROW:=Qh (fun W (k:Below w.heap.size w W)=> qmb W b o (v::l).length c v l (hL.below k) hn9 (qc9 he).1)
   have HPUT:=Qh (qz2 (lim:=lim) (ih) (show d+1+m=50 by omega) hlim he hs hl b o c hT3)
   have HADD:=Qh (fun W2 B2 A n (k:Below w.heap.size w W2) (hr:RowsAt W2 B2 b A n (ptsOf o c (ownParts v l))) (hA:A=none→n=0) (hB2:w.heap.size≤B2)=> qji W2 B b A n (ptsOf o c (ownParts v l)) T lim _ HPUT.out [91] [93] val bs (hr.mono (Nat.le_trans hB hB2)) hA
    ⟨Nat.lt_of_lt_of_le hb k.size,hne,fun h0 g hg=> by
     obtain ⟨g2,e2,h2,r2⟩:=hr.at_ h0
     rw [hg]at e2
     simp only [Option.some.injEq,Addr.mk.injEq]at e2
     obtain ⟨e2,_⟩:=e2
     refine ⟨by rw [e2];exact r2.lt,fun i hi=> ?_⟩
     have:=(ho.block hi).2
     omega⟩ (hE.kept (qad k) (fun _ _ h=> h)) (ho.below k) (Nat.le_trans hB k.size) (by rw [hT2,qde]) rfl rfl (by have:=hr.len;omega) (by omega) hlim)
   have HST:=Qh (fun W2 (k:Below w.heap.size w W2)=> Stq.of_below k val)
   clear ih hL hT3 hs hE h1 ho hlen hbw q1 q2 he hT1 hT2 hob hl;generalize ptsOf o c (ownParts v l)=Q at*;generalize (v::l).length=n at*;obtain ⟨k,key,tx,z⟩:=v
   dsimp only at hk c0 c1 c2 c3
   subst hk;have hAL:=below_alloc' w (.cells #[.int .i64 5, .string (sb key), .string (sb tx), .int .i64 z] 72)
   have HRW:=Qh (HROW.out _ hAL)
   have HAL:=Qh hAL
   have hszl:Hid (w.heap.size≤(w.alloc (.cells #[.int .i64 5, .string (sb key), .string (sb tx), .int .i64 z] 72)).heap.size):=Qh hAL.size
   clear hAL HROW;go_enter Tryz.func73,Tryz.ntmps73
   go_wp2_with fail;refine HRW.out.mono ?_
   rintro e w2 ⟨A,m2,rfl,hA,HR2⟩;have HB2:=Qh (HAL.out.trans (HR2.out.2.mono HAL.out.size))
   have HAA:=Qh (HADD.out w2 _ A m2 HB2.out HR2.out.1 hA hszl.out)
   have HS2:=Qh (HST.out w2 HB2.out)
   clear HRW HADD HST hA HR2 hszl HAL c0 c1 c2 c3;go_wp2_with fail;refine HAA.out.mono ?_
   rintro e w3 ⟨v3,rfl,P1,P2⟩;have HX:=Qh (And.intro P1 (HS2.out.trans P2))
   clear P1 P2 HAA;go_wp2_with fail;go_ret;exact ⟨v3,rfl,HX.out.1,HX.out.2⟩
  ·have hob:isObj v=true:=by unfold isObj;rw [hk];rfl
   have hbw:body v t=[123]++(joinC T++[125]):=by unfold body;rw [hk,hT1];rfl
   rw [hbw]at hlen ⊢
   rw [List.length_append,List.length_append,List.length_singleton,List.length_singleton]at hlen
   rw [hob]at hT3
   obtain ⟨q1,q2⟩:=qqe o c he hs hl
   have hn9:(v::l).length≤250000:=by omega
   have HROW:=Qh (fun W (k:Below w.heap.size w W)=> qmb W b o (v::l).length c v l (hL.below k) hn9 (qc9 he).1)
   have HPUT:=Qh (q2g (lim:=lim) (qp9 ih) (show d+1+m=50 by omega) hlim he hs hl b o c hT3)
   have HADD:=Qh (fun W2 B2 A n (k:Below w.heap.size w W2) (hr:RowsAt W2 B2 b A n (ptsOf o c (ownParts v l))) (hA:A=none→n=0) (hB2:w.heap.size≤B2)=> qji W2 B b A n (ptsOf o c (ownParts v l)) T lim _ HPUT.out [123] [125] val bs (hr.mono (Nat.le_trans hB hB2)) hA
    ⟨Nat.lt_of_lt_of_le hb k.size,hne,fun h0 g hg=> by
     obtain ⟨g2,e2,h2,r2⟩:=hr.at_ h0
     rw [hg]at e2
     simp only [Option.some.injEq,Addr.mk.injEq]at e2
     obtain ⟨e2,_⟩:=e2
     refine ⟨by rw [e2];exact r2.lt,fun i hi=> ?_⟩
     have:=(ho.block hi).2
     omega⟩ (hE.kept (qad k) (fun _ _ h=> h)) (ho.below k) (Nat.le_trans hB k.size) (by rw [hT2,qde]) rfl rfl (by have:=hr.len;omega) (by omega) hlim)
   have HST:=Qh (fun W2 (k:Below w.heap.size w W2)=> Stq.of_below k val)
   clear ih hL hT3 hs hE h1 ho hlen hbw q1 q2 he hT1 hT2 hob hl;generalize ptsOf o c (ownParts v l)=Q at*;generalize (v::l).length=n at*;obtain ⟨k,key,tx,z⟩:=v
   dsimp only at hk c0 c1 c2 c3
   subst hk;have hAL:=below_alloc' w (.cells #[.int .i64 6, .string (sb key), .string (sb tx), .int .i64 z] 72)
   have HRW:=Qh (HROW.out _ hAL)
   have HAL:=Qh hAL
   have hszl:Hid (w.heap.size≤(w.alloc (.cells #[.int .i64 6, .string (sb key), .string (sb tx), .int .i64 z] 72)).heap.size):=Qh hAL.size
   clear hAL HROW;go_enter Tryz.func73,Tryz.ntmps73
   go_wp2_with fail;refine HRW.out.mono ?_
   rintro e w2 ⟨A,m2,rfl,hA,HR2⟩;have HB2:=Qh (HAL.out.trans (HR2.out.2.mono HAL.out.size))
   have HAA:=Qh (HADD.out w2 _ A m2 HB2.out HR2.out.1 hA hszl.out)
   have HS2:=Qh (HST.out w2 HB2.out)
   clear HRW HADD HST hA HR2 hszl HAL c0 c1 c2 c3;go_wp2_with fail;refine HAA.out.mono ?_
   rintro e w3 ⟨v3,rfl,P1,P2⟩;have HX:=Qh (And.intro P1 (HS2.out.trans P2))
   clear P1 P2 HAA;go_wp2_with fail;go_ret;exact ⟨v3,rfl,HX.out.1,HX.out.2⟩
namespace Js
theorem qxd (s:List UInt8):(quoteB s).length≤6*s.length:=by
 have key:∀k (s:List UInt8),s.length≤k→(quoteB s).length≤6*s.length:=by
  intro k;induction k with
  | zero=>
   intro s hs;rw [List.eq_nil_of_length_eq_zero (Nat.le_zero.1 hs),qeh];exact Nat.le_refl _
  | succ k ih=>
   intro s hs;match s with
   | []=> rw [qeh];exact Nat.le_refl _
   | a::r=>
    rw [List.length_cons]at hs
    by_cases h0:(charF (a::r)).2=0
    ·rw [qik h0,List.length_append,List.length_cons]
     have h1:=ih r (by omega)
     have h2:=qb9 65533
     omega
    ·have hc:=(qfo h0)
     have hd:((a::r).drop (charF (a::r)).2).length=r.length+1 - (charF (a::r)).2:=by rw [List.length_drop,List.length_cons]
     have h1:=ih ((a::r).drop (charF (a::r)).2) (by omega)
     rw [qyz h0,List.length_append,List.length_cons];have h2:=q_len (charF (a::r)).1
     unfold qF at h2;omega
 exact key _ s (Nat.le_refl _)
theorem qkp (s:List UInt8):(quoteF s).length≤6*s.length+2:=by
 have:=qxd s
 unfold quoteF
 rw [List.length_cons,List.length_append,List.length_singleton]
 omega
theorem q0e (v:V) (t:List UInt8):(body v t).length≤6*v.text.length+t.length+7:=by
 have h:=qkp v.text
 unfold body
 split
 ·show 4≤_;omega
 split
 ·show 4≤_;omega
 split
 ·show 5≤_;omega
 split
 ·omega
 split
 ·omega
 split
 ·rw [List.length_cons,List.length_append,List.length_singleton];omega
 ·rw [List.length_cons,List.length_append,List.length_singleton];omega
theorem qsc (o:Bool) (v:V) (t:List UInt8):(item o v t).length≤6*v.key.length+6*v.text.length+t.length+10:=by
 have h1:=q0e v t
 have h2:=qkp v.key
 unfold item
 split
 ·rw [List.length_append,List.length_cons];omega
 ·omega
theorem qol {M d:Nat} {o:Bool} {ks:List (List UInt8)} {l:List V} {t:List UInt8} (h:Rows d o ks l t):Short M l→t.length≤l.length*(12*M+40):=by
 induction h with
 | nil=> exact fun _=> Nat.zero_le _
 | @one d o v ks l t hv hd hk hn hu ih=>
  intro hs;have h1:=ih fun x hx=> hs x (List.mem_cons_of_mem _ hx)
  have h2:=qsc o v t
  have h3:=hs v List.mem_cons_self
  rw [List.length_cons,Nat.add_mul,Nat.one_mul];omega
 | @more d o v ks l t k2 ks2 l2 t2 hv hd hk hn hu hr ih ih2=>
  intro hs;have h1:=ih fun x hx=> hs x (List.mem_cons_of_mem _ (List.mem_append_left _ hx))
  have h4:=ih2 fun x hx=> hs x (List.mem_cons_of_mem _ (List.mem_append_right _ hx))
  have h2:=qsc o v t
  have h3:=hs v List.mem_cons_self
  rw [List.length_cons,List.length_append,List.length_append,List.length_cons,Nat.add_mul,Nat.add_mul,Nat.one_mul];omega
theorem Short.mono {M M':Nat} {l:List V} (h:Short M l) (hm:M≤M'):Short M' l:=fun v hv=> ⟨Nat.le_trans (h v hv).1 hm,Nat.le_trans (h v hv).2 hm⟩
theorem row_one' {l:List V} {t:List UInt8} (h:Row l t):∃v r t1,l=v::r∧One 0 false v r t1∧t=body v t1:=by
 obtain ⟨v,l1,l2,t1,t2,rfl,hk,hone,hr,ht⟩:=qbr h.2
 obtain ⟨rfl,_⟩:=qay hr rfl
 rw [if_pos rfl,List.append_nil]at ht
 rw [List.append_nil]
 exact ⟨v,l1,t1,rfl,hone,ht⟩
end Js
theorem qyd (w:World) (A:Option Addr) (n c:Nat) (L:List V) (t:List UInt8) (hL:ValsAt w A n c L) (hs:Short 1048576 L) (hT:TabOk w) (hE:JsEnv w) (hr:Js.Row L t):
  Calls Tryz.prog 42 #[.slice A n c] w fun e w'=> ∃val,e= .returned (.tuple #[val, .bool true])∧Hid (OwnBytes w' w.heap.size val t∧Below w.heap.size w w'):=by
 have hlen:=hL.len
 have h5:=hr.1
 have HR:=Qh (qc4 w A n c L hL (by omega) (hs.mono (by decide)) hT)
 rw [(qa4 L).2 ⟨t,hr⟩]at HR
 have htl:=qol hr.2 hs
 obtain ⟨v,r,t1,rfl,hone,rfl⟩:=row_one' hr
 obtain ⟨b,o,rfl,hb,_⟩:=hL.at_ (by rw [←hlen,List.length_cons];omega)
 have htl2:(body v t1).length≤100000000000:=by
  have h6:(v::r).length*(12*1048576+40)≤5000*(12*1048576+40):=Nat.mul_le_mul_right _ h5
  omega
 have HA:=Qh (fun W (k:Below w.heap.size w W)=> qtt 50 100000000000 0 false v r t1 W w.heap.size b o c (.slice none 0 0) [] rfl (Nat.le_refl _) hone (by rw [hlen];exact hL.below k) (Nat.lt_of_lt_of_le hb k.size) (fun _ h=> by cases h) (OwnBytes.nil _ _) k.size (RdEnv.below hE k) hs h5 (by
  show 0+(body v t1).length≤100000000000
  omega))
 rw [hlen]at HA
 clear hL hs hT hE hr htl hone htl2
 generalize body v t1=bd at*
 go_enter Tryz.func42,Tryz.ntmps42
 go_wp2_with fail
 refine HR.out.mono ?_
 rintro e w2 ⟨rfl,HB⟩
 have HAA:=Qh (HA.out w2 HB.out)
 clear HR HA
 go_wp2_with fail
 refine HAA.out.mono ?_
 rintro e w3 ⟨v3,rfl,P1,P2⟩
 have HX:=Qh (And.intro P1 (HB.out.trans (P2.below HB.out.size (fun k hk=> by cases hk))))
 clear P1 P2 HAA
 go_wp2_with fail
 go_ret2
 exact ⟨v3,rfl,HX⟩
end Go.Proofs.YtgmangikcfakgaaGreatDoor
