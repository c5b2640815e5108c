import Derived.Test.YtgmangikcfakgaaGreatDoorPA15
import Derived.Deep.RegionLaw
set_option maxRecDepth 100000
set_option maxHeartbeats 40000000
namespace Go.Proofs.YtgmangikcfakgaaGreatDoor
open Go.RowKit Sh Jt Js
structure RRd (w:World) (b:Nat) (s:List UInt8) (p:Nat) (v:Value) (L:List V) (e:Int):Prop where
 row:Row w b 92 [.string (sb s), .int .i64 (p:Int),v, .int .i64 e]
 own:OwnVals w (b+1) v L
section
variable {w w1:World} {b:Nat} {s:List UInt8} {p:Nat} {v:Value} {L:List V} {e:Int}
theorem RRd.cells (h:RRd w b s p v L e):w.cell? ⟨b,0,none⟩=some (.string (sb s))∧w.cell? ⟨b,1,none⟩=some (.int .i64 (p:Int))∧w.cell? ⟨b,2,none⟩=some v∧w.cell? ⟨b,3,none⟩=some (.int .i64 e):=
 ⟨h.row.cell rfl,h.row.cell rfl,h.row.cell rfl,h.row.cell rfl⟩
theorem RRd.below (h:RRd w b s p v L e) (hb:Below w.heap.size w w1):RRd w1 b s p v L e:=⟨h.row.below hb h.row.lt,h.own.below hb⟩
theorem RRd.other (h:RRd w b s p v L e) {i:Nat} {x:Value}:OwnVals (w.setCell ⟨b,i,none⟩ x) (b+1) v L:=
 h.own.kept ((Kept.refl w (·=b)).setCell (a:=⟨b,i,none⟩) (.inr rfl) x) (fun k hk e=> by
  have:=(h.own.block hk).1
  omega)
theorem RRd.at_ (h:RRd w b s p v L e) (q:Nat):RRd (w.setCell ⟨b,1,none⟩ (.int .i64 (q:Int))) b s q v L e∧Stp w (w.setCell ⟨b,1,none⟩ (.int .i64 (q:Int))) b v v:=
 ⟨⟨h.row.set 1 _,h.other⟩,⟨(Kept.refl _ _).setCell (a:=⟨b,1,none⟩) (.inr (.inl rfl)) _,fun _ h=> .inl h⟩⟩
theorem RRd.err (h:RRd w b s p v L e) (c:Int):RRd (w.setCell ⟨b,3,none⟩ (.int .i64 c)) b s p v L c∧Stp w (w.setCell ⟨b,3,none⟩ (.int .i64 c)) b v v:=
 ⟨⟨h.row.set 3 _,h.other⟩,⟨(Kept.refl _ _).setCell (a:=⟨b,3,none⟩) (.inr (.inl rfl)) _,fun _ h=> .inl h⟩⟩
theorem RRd.drew (h:RRd w b s p v L e) (m:Nat):RRd (w.drewN m) b s p v L e∧Stp w (w.drewN m) b v v:=
 have k:Below w.heap.size w (w.drewN m):=⟨rfl,rfl,rfl,Nat.le_refl _,fun _ _=> rfl⟩
 ⟨h.below k,Stp.of_below k b v⟩
end
theorem qli {x y:UInt8} (h:n8 x=n8 y):x=y:=UInt8.toNat_inj.1 (by unfold n8 at h;omega)
def skipN (s:List UInt8) (p:Nat):Nat:=s.length - (skip (s.drop p)).length
theorem qwx {s:List UInt8} {p:Nat} (h:s.length≤p):skipN s p=s.length:=by
 unfold skipN
 rw [List.drop_eq_nil_of_le h]
 rfl
theorem qd5 {s:List UInt8} {p:Nat} (h:p < s.length) (hc:s[p]=32∨s[p]=9∨s[p]=10∨s[p]=13):skipN s p=skipN s (p+1):=by
 unfold skipN
 rw [List.drop_eq_getElem_cons h,skip,if_pos hc]
theorem qt7 {s:List UInt8} {p:Nat} (h:p < s.length) (hc:¬(s[p]=32∨s[p]=9∨s[p]=10∨s[p]=13)):skipN s p=p:=by
 unfold skipN
 rw [List.drop_eq_getElem_cons h,skip,if_neg hc,←List.drop_eq_getElem_cons h,List.length_drop]
 omega
theorem qz6 (w:World) (b:Nat) (s:List UInt8) (p:Nat) (v:Value) (L:List V) (e c:Int) (h:RRd w b s p v L e):
  Calls Tryz.prog 99 #[.pointer (some ⟨b,0,none⟩), .int .i64 c] w fun en w'=> en= .returned (.bool false)∧Hid (RRd w' b s p v L c∧Stp w w' b v v):=by
 obtain ⟨c0,c1,c2,c3⟩:=h.cells
 have ff:=h.row.frozen 3
 have HX:=Qh (h.err c)
 clear h
 go_enter Tryz.func99,Tryz.ntmps99
 go_wp2_with fail
 go_ret
 exact ⟨rfl,HX⟩
theorem qjy (w:World) (b:Nat) (s:List UInt8) (p:Nat) (v:Value) (L:List V) (e:Int) (h:RRd w b s p v L e) (hp:p≤s.length) (hs:s.length≤1000000000):
  Calls Tryz.prog 64 #[.pointer (some ⟨b,0,none⟩)] w fun en w'=> en= .returned (.tuple #[])∧Hid (RRd w' b s (skipN s p) v L e∧Stp w w' b v v):=by
 have HR:=Qh h
 clear h
 go_enter Tryz.func64,Tryz.ntmps64
 go_wp2_with fail
 go_loopg [] (s.length - p) (fun g wx=> ∃q:Nat,q+g=s.length∧Hid (skipN s p=skipN s q)∧Hid (RRd wx b s q v L e∧Stp w wx b v v))
 case atStart=> exact ⟨p,by omega,Qh rfl,Qh ⟨HR.out,Stp.refl _ _ _⟩⟩
 case round=>
  clear HR;obtain ⟨q,hqg,HN,HX⟩:=hrel
  obtain ⟨c0,c1,c2,c3⟩:=HX.out.1.cells
  have ff:=HX.out.1.row.frozen 1
  have hsz:=qag s
  cases gk with
  | zero=>
   have hge:¬(q:Int) < (s.length:Int):=by omega
   have hgd:decide ((q:Int) < (s.length:Int))=false:=decide_eq_false hge
   have hgd2:decide (q < s.length)=false:=decide_eq_false (by omega)
   have HE:=Qh (qwx (s:=s) (p:=q) (by omega))
   have hql:q=s.length:=by omega
   generalize hS:sb s=S at*;go_upto_region 0 with fail;go_quiet (fail)
   go_wp2_with fail;go_end0
   have HX2:=(HX.out.1.drew nq)
   exact ⟨rfl,Qh ⟨by rw [HN.out,HE.out,←hql];exact HX2.1,HX.out.2.trans HX2.2⟩⟩
  | succ g=>
   have hq:q < s.length:=by omega
   have hlt:(q:Int) < (s.length:Int):=by omega
   have hix:=qam s q hq
   by_cases h32:s[q]=32
   ·have HSK:=Qh (qd5 hq (.inl h32))
    rw [h32]at hix
    have hix2:∀W,(Instr.index 9 (.string (sb s)) (.int .i64 (q:Int))).run Tryz.prog W= .ok (.int .u8 32) W:=hix
    clear hix;generalize sb s=S at*;go_upto_region 0 with fail;go_quiet (fail)
    go_wp2_with fail;have HX2:=Qh ((HX.out.1.drew nq).1.at_ (q+1))
    have HX3:=Qh (HX.out.2.trans ((HX.out.1.drew nq).2.trans HX2.out.2))
    go_roundg g
    case measure=> omega
    case rel=> exact ⟨q+1,by omega,Qh (HN.out.trans HSK.out),Qh ⟨HX2.out.1,HX3.out⟩⟩
   ·by_cases h9:s[q]=9
    ·have HSK:=Qh (qd5 hq (.inr (.inl h9)))
     rw [h9]at hix
     have hix2:∀W,(Instr.index 9 (.string (sb s)) (.int .i64 (q:Int))).run Tryz.prog W= .ok (.int .u8 9) W:=hix
     clear hix;generalize sb s=S at*;go_upto_region 0 with fail;go_quiet (fail)
     go_wp2_with fail;have HX2:=Qh ((HX.out.1.drew nq).1.at_ (q+1))
     have HX3:=Qh (HX.out.2.trans ((HX.out.1.drew nq).2.trans HX2.out.2))
     go_roundg g
     case measure=> omega
     case rel=> exact ⟨q+1,by omega,Qh (HN.out.trans HSK.out),Qh ⟨HX2.out.1,HX3.out⟩⟩
    ·by_cases h10:s[q]=10
     ·have HSK:=Qh (qd5 hq (.inr (.inr (.inl h10))))
      rw [h10]at hix
      have hix2:∀W,(Instr.index 9 (.string (sb s)) (.int .i64 (q:Int))).run Tryz.prog W= .ok (.int .u8 10) W:=hix
      clear hix;generalize sb s=S at*;go_upto_region 0 with fail;go_quiet (fail)
      go_wp2_with fail;have HX2:=Qh ((HX.out.1.drew nq).1.at_ (q+1))
      have HX3:=Qh (HX.out.2.trans ((HX.out.1.drew nq).2.trans HX2.out.2))
      go_roundg g
      case measure=> omega
      case rel=> exact ⟨q+1,by omega,Qh (HN.out.trans HSK.out),Qh ⟨HX2.out.1,HX3.out⟩⟩
     ·by_cases h13:s[q]=13
      ·have HSK:=Qh (qd5 hq (.inr (.inr (.inr h13))))
       rw [h13]at hix
       have hix2:∀W,(Instr.index 9 (.string (sb s)) (.int .i64 (q:Int))).run Tryz.prog W= .ok (.int .u8 13) W:=hix
       clear hix;generalize sb s=S at*;go_upto_region 0 with fail;go_quiet (fail)
       go_wp2_with fail;have HX2:=Qh ((HX.out.1.drew nq).1.at_ (q+1))
       have HX3:=Qh (HX.out.2.trans ((HX.out.1.drew nq).2.trans HX2.out.2))
       go_roundg g
       case measure=> omega
       case rel=> exact ⟨q+1,by omega,Qh (HN.out.trans HSK.out),Qh ⟨HX2.out.1,HX3.out⟩⟩
      ·have hno:¬(s[q]=32∨s[q]=9∨s[q]=10∨s[q]=13):=by
        rintro (h | h | h | h)
        ·exact h32 h
        ·exact h9 h
        ·exact h10 h
        ·exact h13 h
       have HSK:=Qh (qt7 hq hno)
       have k32:¬n8 s[q]=32:=fun e=> h32 (qli (y:=32) e)
       have k9:¬n8 s[q]=9:=fun e=> h9 (qli (y:=9) e)
       have k10:¬n8 s[q]=10:=fun e=> h10 (qli (y:=10) e)
       have k13:¬n8 s[q]=13:=fun e=> h13 (qli (y:=13) e)
       clear h32 h9 h10 h13 hno;generalize n8 s[q]=z at*;have b32:(z==32)=false:=beq_eq_false_iff_ne.2 k32
       have b9:(z==9)=false:=beq_eq_false_iff_ne.2 k9
       have b10:(z==10)=false:=beq_eq_false_iff_ne.2 k10
       have b13:(z==13)=false:=beq_eq_false_iff_ne.2 k13
       generalize sb s=S at*;go_upto_region 0 with fail;go_quiet (fail)
       go_wp2_with fail;go_end0
       have HX2:=(HX.out.1.drew nq)
       exact ⟨rfl,Qh ⟨by rw [HN.out,HSK.out];exact HX2.1,HX.out.2.trans HX2.2⟩⟩
end Go.Proofs.YtgmangikcfakgaaGreatDoor
namespace Go.Proofs.YtgmangikcfakgaaGreatDoor
open Go.RowKit Sh Jt Js
theorem qnl:∀u:List UInt8,∃w,u=w++skip u
 | []=> ⟨[],rfl⟩
 | a::r=> by
  rw [skip];split
  ·obtain ⟨w,h⟩:=qnl r
   exact ⟨a::w,by rw [List.cons_append,←h]⟩
  ·exact ⟨[],rfl⟩
theorem qdn (s:List UInt8) (p:Nat):skip (s.drop p)=s.drop (skipN s p)∧skipN s p≤s.length:=by
 obtain ⟨w,h⟩:=qnl (s.drop p)
 have h2:s=(s.take p++w)++skip (s.drop p):=by rw [List.append_assoc,←h,List.take_append_drop]
 have hl:=congrArg List.length h2
 rw [List.length_append]at hl
 have hn:skipN s p=(s.take p++w).length:=by
  unfold skipN;omega
 have key:∀A U:List UInt8,s=A++U→U=s.drop A.length:=fun A U e=> by rw [e,List.drop_left]
 refine ⟨?_,by unfold skipN;omega⟩
 rw [hn]
 exact key _ _ h2
theorem q12 (t s:List UInt8) (q:Nat) (_:q+t.length≤s.length):(((sb s).extract q (q+t.length)).toList==(sb t).toList)=t.isPrefixOf (s.drop q):=by
 rw [qcj,qab,qab]
 have e:(s.take (q+t.length)).drop q=(s.drop q).take t.length:=by
  rw [List.drop_take];congr 1
  omega
 rw [e]
 cases hp:t.isPrefixOf (s.drop q)with
 | true=>
  obtain ⟨r,hr⟩:=List.isPrefixOf_iff_prefix.1 hp
  rw [←hr,List.take_left];simp
 | false=>
  refine beq_eq_false_iff_ne.2 fun e2=> ?_
  have:t.isPrefixOf (s.drop q)=true:=List.isPrefixOf_iff_prefix.2 ⟨(s.drop q).drop t.length,by
   have h3:=List.take_append_drop t.length (s.drop q)
   rw [e2]at h3
   exact h3⟩
  rw [hp]at this
  cases this
theorem qy3 (t s:List UInt8) (q:Nat) (h:s.length < q+t.length) (hq:q≤s.length):t.isPrefixOf (s.drop q)=false:=by
 cases hp:t.isPrefixOf (s.drop q)with
 | false=> rfl
 | true=>
  obtain ⟨r,hr⟩:=List.isPrefixOf_iff_prefix.1 hp
  have:=congrArg List.length hr
  rw [List.length_append,List.length_drop]at this
  omega
def signN (t s:List UInt8) (p:Nat):Nat:=if t.isPrefixOf (skip (s.drop p))=true then skipN s p+t.length else skipN s p
theorem q0q (w:World) (b:Nat) (s:List UInt8) (p:Nat) (v:Value) (L:List V) (e:Int) (t:List UInt8) (h:RRd w b s p v L e) (hp:p≤s.length) (hs:s.length≤1000000000) (ht:t.length≤100):
  Calls Tryz.prog 100 #[.pointer (some ⟨b,0,none⟩), .string (sb t)] w fun en w'=> en= .returned (.bool (t.isPrefixOf (skip (s.drop p))))∧Hid (RRd w' b s (signN t s p) v L e∧Stp w w' b v v):=by
 have HK:=Qh (qjy w b s p v L e h hp hs)
 obtain ⟨hd,hqs⟩:=qdn s p
 have HSN:=Qh (show signN t s p=if t.isPrefixOf (skip (s.drop p))=true then skipN s p+t.length else skipN s p from rfl)
 rw [hd]at HSN ⊢
 clear h hd
 generalize signN t s p=Y at*
 generalize skipN s p=q at*
 have hz1:=qag s
 have hz2:=qag t
 by_cases hlong:s.length < q+t.length
 ·have hf:=qy3 t s q hlong hqs
  rw [hf]at HSN ⊢
  have h1:(s.length:Int) < (q:Int)+(t.length:Int):=by omega
  have h2:decide ((s.length:Int) < (q:Int)+(t.length:Int))=true:=decide_eq_true h1
  rw [if_neg (by decide)]at HSN
  generalize hS:sb s=S at*;generalize hT:sb t=T at*;go_enter Tryz.func100,Tryz.ntmps100
  go_wp2_with fail;refine HK.out.mono ?_
  rintro en w1 ⟨rfl,HX⟩;obtain ⟨c0,c1,c2,c3⟩:=HX.out.1.cells
  have ff:=HX.out.1.row.frozen 1
  clear HK;go_upto_region 2 with fail;go_quiet (fail)
  go_wp2_with fail;go_ret;have HX2:=HX.out.1.drew nq
  exact ⟨rfl,Qh ⟨by rw [HSN.out];exact HX2.1,HX.out.2.trans HX2.2⟩⟩
 ·have hcut:=q12 t s q (by omega)
  have h1:¬(s.length:Int) < (q:Int)+(t.length:Int):=by omega
  have h2:decide ((s.length:Int) < (q:Int)+(t.length:Int))=false:=decide_eq_false h1
  have h3:decide (s.length < q+t.length)=false:=decide_eq_false hlong
  have h5:(q:Int)+(t.length:Int)≤(s.length:Int):=by omega
  generalize t.isPrefixOf (s.drop q)=P at*;generalize hS:sb s=S at*;generalize hT:sb t=T at*;cases P with
  | false=>
   rw [if_neg (by decide)]at HSN
   go_enter Tryz.func100,Tryz.ntmps100
   go_wp2_with fail;refine HK.out.mono ?_
   rintro en w1 ⟨rfl,HX⟩;obtain ⟨c0,c1,c2,c3⟩:=HX.out.1.cells
   have ff:=HX.out.1.row.frozen 1
   clear HK;go_upto_region 2 with fail;go_quiet (fail)
   go_wp2_with fail;go_ret;have HX2:=HX.out.1.drew nq
   exact ⟨rfl,Qh ⟨by rw [HSN.out];exact HX2.1,HX.out.2.trans HX2.2⟩⟩
  | true=>
   rw [if_pos rfl]at HSN
   go_enter Tryz.func100,Tryz.ntmps100
   go_wp2_with fail;refine HK.out.mono ?_
   rintro en w1 ⟨rfl,HX⟩;obtain ⟨c0,c1,c2,c3⟩:=HX.out.1.cells
   have ff:=HX.out.1.row.frozen 1
   clear HK;go_upto_region 2 with fail;go_quiet (fail)
   go_wp2_with fail;go_ret;have HX2:=HX.out.1.drew nq
   have HX3:=HX2.1.at_ (q+t.length)
   exact ⟨rfl,Qh ⟨by rw [HSN.out];exact HX3.1,HX.out.2.trans (HX2.2.trans HX3.2)⟩⟩
namespace Js
def txtN (s:List UInt8) (p:Nat):Nat:=skipN s p+(match unqF (skip (s.drop p))with | some x=> x.2 | none=> 0)
def txtV:Option (List UInt8×Nat)→Value
 | some x=> .tuple #[.string (sb x.1), .bool true]
 | none=> .tuple #[.string ⟨#[]⟩, .bool false]
end Js
theorem qn2 {w w':World} {B:Nat} (h:Below B (w.drewN 1) w'):Below B w w':=⟨h.os,h.tape,h.output,h.size,h.block⟩
theorem qzs (w:World) (b:Nat) (s:List UInt8) (p:Nat) (v:Value) (L:List V) (e:Int) (h:RRd w b s p v L e) (hp:p≤s.length) (hs:s.length≤1000000000):
  Calls Tryz.prog 102 #[.pointer (some ⟨b,0,none⟩)] w fun en w'=> en= .returned (txtV (unqF (skip (s.drop p))))∧Hid (RRd w' b s (txtN s p) v L e∧Stp w w' b v v):=by
 have HK:=Qh (qjy w b s p v L e h hp hs)
 obtain ⟨hd,hqs⟩:=qdn s p
 have HSN:=Qh (show txtN s p=skipN s p+(match unqF (skip (s.drop p))with | some x=> x.2 | none=> 0)from rfl)
 rw [hd]at HSN ⊢
 clear h hd
 generalize txtN s p=Y at*
 generalize skipN s p=q at*
 have hz1:=qag s
 have hcut:=qbg s q
 have hle:∀x,unqF (s.drop q)=some x→x.2≤s.length - q:=fun x hx=> by
  have:=(qid hx).1
  rw [List.length_drop]at this
  exact this
 have HU:=Qh (fun W=> qrn W (s.drop q) (by rw [List.length_drop];omega))
 have h5:(q:Int)≤(s.length:Int):=by omega
 have HCC:=Qh (fun w1 W (hx:RRd w1 b s q v L e∧Stp w w1 b v v) (k:Below (w1.drewN 1).heap.size (w1.drewN 1) W)=>
  have k2:Below w1.heap.size w1 W:=qn2 k
  show W.cell? ⟨b,0,none⟩=some (.string (sb s))∧W.cell? ⟨b,1,none⟩=some (.int .i64 (q:Int))∧W.frozen? ⟨b,1,none⟩=false∧RRd W b s q v L e∧Stp w W b v v from
   ⟨(hx.1.below k2).cells.1,(hx.1.below k2).cells.2.1,(hx.1.below k2).row.frozen 1,hx.1.below k2,hx.2.trans (Stp.of_below k2 b v)⟩)
 cases hu:unqF (s.drop q)with
 | none=>
  rw [hu]at HSN HU
  unfold unqV at HU;dsimp only at HSN
  rw [Nat.add_zero]at HSN
  unfold txtV;clear hu hle;generalize hS:sb s=S at*;generalize sb (s.drop q)=T at*;go_enter Tryz.func102,Tryz.ntmps102
  go_wp2_with fail;refine HK.out.mono ?_
  rintro en w1 ⟨rfl,HX⟩;obtain ⟨c0,c1,c2,c3⟩:=HX.out.1.cells
  rw [hS]at c0
  have HUB:=Qh (HU.out (w1.drewN 1))
  have HCB:=Qh (fun W k=> HCC.out w1 W HX.out k)
  clear HK HCC HU c2 c3;go_upto_region 2 with fail;go_region_held3 (fun x=> x.cell? ⟨b,0,none⟩=some (.string S)∧x.cell? ⟨b,1,none⟩=some (.int .i64 (q:Int))) (first | exact ⟨c0,c1⟩ | exact ⟨HY.out.1,HY.out.2.1⟩) (first | (go_at_call 139;refine HUB.out.mono ?_;rintro e w2 ⟨rfl,BB⟩;have HY:=Qh (HCB.out w2 BB)))
  have ff:=HY.out.2.2.1
  go_wp2_with fail;go_ret2;have HA:=HY.out.2.2.2.1.at_ q
  exact ⟨rfl,Qh ⟨by rw [HSN.out];exact HA.1,HY.out.2.2.2.2.trans HA.2⟩⟩
 | some x=>
  obtain ⟨x,n⟩:=x
  have hn:=hle _ hu
  rw [hu]at HSN HU
  unfold unqV at HU;dsimp only at HSN HU hn
  unfold txtV;dsimp only
  have h6:(q:Int)+(n:Int)≤(s.length:Int):=by omega
  have h7:(s.length:Int)≤1000000000:=by omega
  have h8:(0:Int)≤(q:Int)+(n:Int):=by omega
  clear hu hle hn hqs;generalize hS:sb s=S at*;generalize sb (s.drop q)=T at*;generalize sb x=X at*;go_enter Tryz.func102,Tryz.ntmps102
  go_wp2_with fail;refine HK.out.mono ?_
  rintro en w1 ⟨rfl,HX⟩;obtain ⟨c0,c1,c2,c3⟩:=HX.out.1.cells
  rw [hS]at c0
  have HUB:=Qh (HU.out (w1.drewN 1))
  have HCB:=Qh (fun W k=> HCC.out w1 W HX.out k)
  clear HK HCC HU c2 c3;go_upto_region 2 with fail;go_region_held3 (fun x=> x.cell? ⟨b,0,none⟩=some (.string S)∧x.cell? ⟨b,1,none⟩=some (.int .i64 (q:Int))) (first | exact ⟨c0,c1⟩ | exact ⟨HY.out.1,HY.out.2.1⟩) (first | (go_at_call 139;refine HUB.out.mono ?_;rintro e w2 ⟨rfl,BB⟩;have HY:=Qh (HCB.out w2 BB)))
  have ff:=HY.out.2.2.1
  go_wp2_with fail;go_ret2;have HA:=HY.out.2.2.2.1.at_ (q+n)
  exact ⟨rfl,Qh ⟨by rw [HSN.out];exact HA.1,HY.out.2.2.2.2.trans HA.2⟩⟩
end Go.Proofs.YtgmangikcfakgaaGreatDoor
namespace Go.Proofs.YtgmangikcfakgaaGreatDoor
open Go.RowKit Sh Jt Js
def RR (w:World) (b:Nat) (s u:List UInt8) (v:Value) (L:List V) (e:Int):Prop:=∃p,p≤s.length∧s.drop p=u∧RRd w b s p v L e
section
variable {w w1:World} {b:Nat} {s u:List UInt8} {v:Value} {L:List V} {e:Int}
theorem RR.below (h:RR w b s u v L e) (hb:Below w.heap.size w w1):RR w1 b s u v L e:=by
 obtain ⟨p,h1,h2,h3⟩:=h
 exact ⟨p,h1,h2,h3.below hb⟩
theorem RR.len (h:RR w b s u v L e):u.length≤s.length:=by
 obtain ⟨p,h1,rfl,h3⟩:=h
 rw [List.length_drop]
 omega
theorem RR.lt (h:RR w b s u v L e):b < w.heap.size:=by
 obtain ⟨p,_,_,h3⟩:=h
 exact h3.row.lt
theorem RR.own (h:RR w b s u v L e):OwnVals w (b+1) v L:=by
 obtain ⟨p,_,_,h3⟩:=h
 exact h3.own
theorem js_rskip' (h:RR w b s u v L e) (hs:s.length≤1000000000):
  Calls Tryz.prog 64 #[.pointer (some ⟨b,0,none⟩)] w fun en w'=> en= .returned (.tuple #[])∧Hid (RR w' b s (skip u) v L e∧Stp w w' b v v):=by
 obtain ⟨p,hp,rfl,h3⟩:=h
 obtain ⟨hd,hq⟩:=qdn s p
 exact (qjy w b s p v L e h3 hp hs).mono fun _ _ h=> ⟨h.1,Qh ⟨⟨_,hq,hd.symm,h.2.out.1⟩,h.2.out.2⟩⟩
theorem js_rfail' (c:Int) (h:RR w b s u v L e):
  Calls Tryz.prog 99 #[.pointer (some ⟨b,0,none⟩), .int .i64 c] w fun en w'=> en= .returned (.bool false)∧Hid (RR w' b s u v L c∧Stp w w' b v v):=by
 obtain ⟨p,hp,rfl,h3⟩:=h
 exact (qz6 w b s p v L e c h3).mono fun _ _ h=> ⟨h.1,Qh ⟨⟨_,hp,rfl,h.2.out.1⟩,h.2.out.2⟩⟩
theorem js_rsign' (t:List UInt8) (h:RR w b s u v L e) (hs:s.length≤1000000000) (ht:t.length≤100):
  Calls Tryz.prog 100 #[.pointer (some ⟨b,0,none⟩), .string (sb t)] w fun en w'=> en= .returned (.bool (t.isPrefixOf (skip u)))∧
   Hid (RR w' b s (if t.isPrefixOf (skip u)=true then (skip u).drop t.length else skip u) v L e∧Stp w w' b v v):=by
 obtain ⟨p,hp,rfl,h3⟩:=h
 obtain ⟨hd,hq⟩:=qdn s p
 refine (q0q w b s p v L e t h3 hp hs ht).mono fun _ _ h=> ⟨h.1,Qh ⟨⟨_, ?_, ?_,h.2.out.1⟩,h.2.out.2⟩⟩
 ·unfold signN
  split
  next hx=>
   obtain ⟨r,hr⟩:=List.isPrefixOf_iff_prefix.1 hx
   have:=congrArg List.length hr
   rw [hd,List.length_append,List.length_drop]at this
   omega
  ·exact hq
 ·unfold signN
  split
  ·rw [hd,List.drop_drop]
  ·exact hd.symm
theorem js_rtext' (h:RR w b s u v L e) (hs:s.length≤1000000000):
  Calls Tryz.prog 102 #[.pointer (some ⟨b,0,none⟩)] w fun en w'=> en= .returned (txtV (unqF (skip u)))∧Hid (RR w' b s (textR (skip u) (unqF (skip u))) v L e∧Stp w w' b v v):=by
 obtain ⟨p,hp,rfl,h3⟩:=h
 obtain ⟨hd,hq⟩:=qdn s p
 refine (qzs w b s p v L e h3 hp hs).mono fun _ _ h=> ⟨h.1,Qh ⟨⟨_, ?_, ?_,h.2.out.1⟩,h.2.out.2⟩⟩
 ·unfold txtN
  split
  next x hx=>
   have:=(qid hx).1
   rw [hd,List.length_drop]at this
   omega
  ·exact hq
 ·unfold txtN
  cases unqF (skip (s.drop p))with
  | none=> exact hd.symm
  | some x=>
   show s.drop (skipN s p+x.2)=(skip (s.drop p)).drop x.2
   rw [hd,List.drop_drop]
end
end Go.Proofs.YtgmangikcfakgaaGreatDoor
namespace Go.Proofs.YtgmangikcfakgaaGreatDoor
open Go.RowKit Sh Jt Js
theorem qjc (w:World):Below w.heap.size w (w.drewN 1):=⟨rfl,rfl,rfl,Nat.le_refl _,fun _ _=> rfl⟩
section
variable {w wa w':World} {b:Nat} {s u:List UInt8} {v v':Value} {L L':List V} {e:Int}
theorem RR.grow (h:RR w b s u v L e) (hb:Below w.heap.size w wa) (own:OwnVals w' (b+1) v' L') (k:Kept wa w' (fun k=> b+1≤k∧v.ownBlock=some k)) (f:∀k,v'.ownBlock=some k→v.ownBlock=some k∨wa.heap.size≤k):
  RR (w'.setCell ⟨b,2,none⟩ v') b s u v' L' e∧Stp w (w'.setCell ⟨b,2,none⟩ v') b v v':=by
 obtain ⟨p,hp,hu,h0⟩:=h
 have h1:=h0.below hb
 have r1:Row w' b 92 [.string (sb s), .int .i64 (p:Int),v, .int .i64 e]:=k.row h1.row (fun hk=> by omega)
 have hs:w.heap.size≤wa.heap.size:=hb.size
 have k2:Kept w w' (fun k=> k=b∨v.ownBlock=some k):=⟨k.os.trans hb.os,k.tape.trans hb.tape,k.output.trans hb.output,Nat.le_trans hs k.size,fun i hi hn=> (k.block i (Nat.lt_of_lt_of_le hi hs) (fun hk=> hn (.inr hk.2))).trans (hb.block i hi)⟩
 refine ⟨⟨p,hp,hu,r1.set 2 _,own.kept ((Kept.refl w' (·=b)).setCell (a:=⟨b,2,none⟩) (.inr rfl) _) (fun i hi e=> by
  have:=(own.block hi).1
  omega)⟩,⟨k2.setCell (a:=⟨b,2,none⟩) (.inr (.inl rfl)) _,fun i hi=> ?_⟩⟩
 rcases f i hi with h2 | h2
 ·exact .inl h2
 ·exact .inr (Nat.le_trans hs h2)
theorem RR.slot (h:RR w b s u v L e) (hb:Below w.heap.size w wa) (k:Kept wa w' (fun k=> b+1≤k∧v.ownBlock=some k)):w'.cell? ⟨b,2,none⟩=some v∧w'.frozen? ⟨b,2,none⟩=false:=by
 obtain ⟨p,hp,hu,h0⟩:=h
 have r1:Row w' b 92 [.string (sb s), .int .i64 (p:Int),v, .int .i64 e]:=k.row (h0.below hb).row (fun hk=> by omega)
 exact ⟨r1.cell rfl,r1.frozen 2⟩
theorem RR.cell2 (h:RR w b s u v L e):w.cell? ⟨b,2,none⟩=some v∧w.frozen? ⟨b,2,none⟩=false:=by
 obtain ⟨p,hp,hu,h0⟩:=h
 exact ⟨h0.cells.2.2.1,h0.row.frozen 2⟩
end
theorem qj9 {w:World} {ops:Array Oper} {o:Oper} {a:Act} {K:Act→World→Prop} {Q:Exit→Act→World→Prop} {E:Prop} (hg:o.guard=none) (s x:Operand)
  (ho:o.op= .call {callee:= .builtin .append,args:=#[s,x],argTypes:=#[26,26]}) (B:Nat) (v:Value) (L:List V) (hs:a.eval s=v) (hown:OwnVals w B v L)
  (ad:Addr) (n c:Nat) (M:List V) (hx:a.eval x= .slice (some ad) n c) (hsrc:ValsAt w (some ad) n c M) (hb:L.length+n≤1000000000000) (hB:B≤w.heap.size)
  (h:∀v' w',Hid (OwnVals w' B v' (L++M))→Hid (Kept w w' (fun k=> B≤k∧v.ownBlock=some k))→Hid (∀k,v'.ownBlock=some k→v.ownBlock=some k∨w.heap.size≤k)→K (a.put o.dst v') w'):
  if Region.wanted o (yielded ops a.tmps)=true then Oper.wp Tryz.prog o a w K Q else E:=by
 rw [if_pos (by simp [Region.wanted,hg])]
 obtain ⟨i,hi,hz,hsz,hby⟩:=qc0
 have hlen:=hsrc.len
 have hnews:∀j u,(cellsV M)[j]? =some u→w.cell? (ad.add j)=some u:=by
  intro j u hj;have hjl:=(List.getElem?_eq_some_iff.1 hj).1
  rw [qa0]at hjl
  obtain ⟨b,off,e,_,hr⟩:=hsrc.at_ (by omega)
  simp only [Option.some.injEq]at e
  subst e;rw [Addr.add_mid];exact hr j u hj
 obtain ⟨v',w',hr,h2,h3,h4,h5⟩:=run_append_own_at (P:=Tryz.prog) w B 26 o.type 72 i (.agg #[.int .i64 0, .string ⟨#[]⟩, .string ⟨#[]⟩, .int .i64 0]) 4 48 Tryz.underlying26 hi hz hsz hby rfl (by decide) v L.length (cellsV L) hown ad n c (cellsV M)
  (by rw [qa0,hlen]) hnews (qet M) (by unfold maxLen;omega) (by omega) hB
 unfold Oper.wp execOp
 simp only [ho,resolve,invoke,builtin,Sem.run_bind,Sem.run_pure,Result.andThen_ok,List.map_toArray,List.map_cons,List.map_nil,hs,hx,hr]
 refine h v' w' ?_ ?_ ?_
 ·show w'.ownsRow B _ 4 v' (L++M).length (cellsV (L++M))
  rw [List.length_append,hlen,qdr];exact h2
 ·refine ⟨h3.os,h3.tape,h3.output,h3.size,fun k hk hn=> h3.block k hk (fun e=> hn ?_)⟩
  obtain ⟨_,⟨rfl,_⟩ | ⟨g,cap,cur,rfl,hg,_⟩⟩:=hown
  ·cases e
  ·have e':g=k:=by simpa [Value.ownBlock] using e.symm
   subst e'
   exact ⟨hg,rfl⟩
 ·intro k hk
  rcases h5 with h5 | h5
  ·exact .inl (h5▸hk)
  ·rw [h5]at hk
   exact .inr (Nat.le_of_eq (Option.some.inj hk))
theorem qn5 (W:World) (k n:Int) (s1 s2:ByteArray):(Instr.buildSlice 26 1 #[(0, .agg #[.int .i64 k, .string s1, .string s2, .int .i64 n])]).run Tryz.prog W= .ok (.slice (some ⟨W.heap.size,0,none⟩) 1 1) (W.alloc (.cells #[.int .i64 k, .string s1, .string s2, .int .i64 n] 72)):=by
 obtain ⟨i,hi,hz,hsz,_⟩:=qc0
 refine run_buildSlice (P:=Tryz.prog) W 26 72 1 #[(0, .agg #[.int .i64 k, .string s1, .string s2, .int .i64 n])] #[.int .i64 k, .string s1, .string s2, .int .i64 n] i _ Tryz.underlying26 hi hz (by rw [hsz];decide) (by rw [hsz];decide) ?_
 rw [hsz]
 rw [show Array.range (1*4)=#[0,1,2,3]from by decide]
 simp [Instr.fill,Value.cells]
theorem qe0 (w:World) (b:Nat) (s u:List UInt8) (v:Value) (L:List V) (k n:Int) (key t:List UInt8) (d:Nat) (h:RR w b s u v L 0) (hd:d < 50) (hL:L.length < 5000):
  Calls Tryz.prog 101 #[.pointer (some ⟨b,0,none⟩), .agg #[.int .i64 k, .string (sb key), .string (sb t), .int .i64 n], .int .i64 (d:Int)] w fun en w'=> en= .returned (.bool true)∧∃v',Hid (RR w' b s u v' (L++[⟨k,key,t,n⟩]) 0∧Stp w w' b v v'):=by
 obtain ⟨A,c,rfl,_⟩:=h.own.vals
 have hB:=qac w (.cells #[.int .i64 k, .string (sb key), .string (sb t), .int .i64 n] 72)
 have HR:=Qh (h.below hB)
 have HB:=Qh (Stp.of_below hB b (.slice A L.length c))
 obtain ⟨c2,ff⟩:=(h.below hB).cell2
 have r1:Row (w.alloc (.cells #[.int .i64 k, .string (sb key), .string (sb t), .int .i64 n] 72)) w.heap.size 72 (cellsV [⟨k,key,t,n⟩]):=Row.new w 72 (cellsV [⟨k,key,t,n⟩])
 have x0:(w.alloc (.cells #[.int .i64 k, .string (sb key), .string (sb t), .int .i64 n] 72)).cell? ⟨w.heap.size,0,none⟩=some (.int .i64 k):=r1.cell rfl
 have x1:(w.alloc (.cells #[.int .i64 k, .string (sb key), .string (sb t), .int .i64 n] 72)).cell? ⟨w.heap.size,1,none⟩=some (.string (sb key)):=r1.cell rfl
 have x2:(w.alloc (.cells #[.int .i64 k, .string (sb key), .string (sb t), .int .i64 n] 72)).cell? ⟨w.heap.size,2,none⟩=some (.string (sb t)):=r1.cell rfl
 have x3:(w.alloc (.cells #[.int .i64 k, .string (sb key), .string (sb t), .int .i64 n] 72)).cell? ⟨w.heap.size,3,none⟩=some (.int .i64 n):=r1.cell rfl
 have hbl:=h.lt
 have hll:(L++[(⟨k,key,t,n⟩:V)]).length=L.length+1:=by rw [List.length_append,List.length_singleton]
 have hbl2:=HR.out.lt
 have g1:¬(50:Int)≤(d:Int):=by omega
 have g2:¬(5000:Int)≤(L.length:Int):=by omega
 have e1:decide ((50:Int)≤(d:Int))=false:=decide_eq_false g1
 have e2:decide ((5000:Int)≤(L.length:Int))=false:=decide_eq_false g2
 clear h hB r1
 go_enter Tryz.func101,Tryz.ntmps101
 go_upto_region 3 with fail
 generalize w.alloc (.cells #[.int .i64 k, .string (sb key), .string (sb t), .int .i64 n] 72)=wa at*
 generalize w.heap.size=B at*
 have hbs:∀W,(Instr.buildSlice 26 1 #[(0, .agg #[.int .i64 k, .string (sb key), .string (sb t), .int .i64 n])]).run Tryz.prog W= .ok (.slice (some ⟨W.heap.size,0,none⟩) 1 1) (W.alloc (.cells #[.int .i64 k, .string (sb key), .string (sb t), .int .i64 n] 72)):=fun W=> qn5 W k n (sb key) (sb t)
 have hB1:=qac wa (.cells #[.int .i64 k, .string (sb key), .string (sb t), .int .i64 n] 72)
 have HVA:Hid (ValsAt (wa.alloc (.cells #[.int .i64 k, .string (sb key), .string (sb t), .int .i64 n] 72)).drew (some ⟨wa.heap.size,0,none⟩) 1 1 [⟨k,key,t,n⟩]):=Qh ((ValsAt.lay (Row.new wa 72 (cellsV [⟨k,key,t,n⟩])) 1 rfl).below (qjc _))
 have HBA:Hid (Below wa.heap.size wa (wa.alloc (.cells #[.int .i64 k, .string (sb key), .string (sb t), .int .i64 n] 72)).drew):=Qh (hB1.trans ((qjc _).mono hB1.size))
 have HOW:=Qh (HR.out.own.below HBA.out)
 clear hB1
 go_region_law (go_must (with_reducible refine qj9 rfl _ _ rfl (b+1) (.slice A L.length c) L rfl HOW.out ⟨wa.heap.size,0,none⟩ 1 1 [⟨k,key,t,n⟩] rfl HVA.out (by omega) (by simp;omega) ?_;intro v2 w2 h1 h2 h3;obtain ⟨g2,n2,rfl, -⟩:=h1.out.got (by rw [hll];omega);rw [hll]at h1 h3;obtain ⟨hc2,hf2⟩:=HR.out.slot HBA.out h2.out;have HGR:=Qh (HR.out.grow HBA.out h1.out h2.out h3.out)))
 all_goals
  go_wp2_with fail;go_ret;exact ⟨rfl,_,Qh ⟨HGR.out.1,HB.out.trans HGR.out.2⟩⟩
end Go.Proofs.YtgmangikcfakgaaGreatDoor
