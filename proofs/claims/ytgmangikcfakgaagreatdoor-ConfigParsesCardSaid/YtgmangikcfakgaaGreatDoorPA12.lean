import Derived.Laws.Closers25
import Derived.Laws.Closers25b
import Derived.Lib.AtoiAllMem
import Derived.Test.YtgmangikcfakgaaGreatDoorPA11
set_option maxRecDepth 100000
set_option maxHeartbeats 40000000
namespace Go.Proofs.YtgmangikcfakgaaGreatDoor
open Go.RowKit Sh
namespace Jt
def hexL (acc:Nat):List UInt8→Option Nat
 | []=> some acc
 | c::r=> (hexv c).bind fun d=> hexL (acc*16+d) r
theorem qmv (a b c d:UInt8):hexL 0 [a,b,c,d]=hexq a b c d:=by
 unfold hexq
 rw [hexL]
 cases hexv a with
 | none=> rfl
 | some w=>
  show hexL (0*16+w) [b,c,d]=_
  rw [hexL,show 0*16+w=w by omega];cases hexv b with
  | none=> rfl
  | some x=>
   show hexL (w*16+x) [c,d]=_
   rw [hexL];cases hexv c with
   | none=> rfl
   | some y=>
    show hexL ((w*16+x)*16+y) [d]=_
    rw [hexL];cases hexv d with
    | none=> rfl
    | some z=> rfl
def parsedV:Option Nat→Value
 | some n=> .tuple #[.int .u64 (n:Int), .nilIface]
 | none=> .tuple #[.int .u64 0, .iface 214 (.int .i64 2)]
inductive DigIs (c:UInt8):Prop where
 | num (h0:48≤n8 c) (h1:n8 c≤57) (h:hexv c=some (c.toNat - 48))
 | let_ (x:Int) (hx:bits .or .u8 (n8 c) 32=x) (h0:97≤x) (h1:x≤102) (h95:¬n8 c=95) (hn:¬(48≤n8 c∧n8 c≤57)) (h:hexv c=some (x.toNat - 87))
 | far (x:Int) (hx:bits .or .u8 (n8 c) 32=x) (h0:103≤x) (h1:x≤122) (h95:¬n8 c=95) (hn:¬(48≤n8 c∧n8 c≤57)) (h:hexv c=none)
 | no (x:Int) (hx:bits .or .u8 (n8 c) 32=x) (h0:x < 97∨122 < x) (hn:¬(48≤n8 c∧n8 c≤57)) (h:hexv c=none)
theorem q3c:∀c:UInt8,DigIs c:=by
 intro c
 have key:∀n:Fin 256,(48≤n.1∧n.1≤57∧hexv (UInt8.ofNat n.1)=some (n.1 - 48))∨(¬(48≤n.1∧n.1≤57)∧
   ((97≤bits .or .u8 (n.1:Int) 32∧bits .or .u8 (n.1:Int) 32≤102∧n.1≠95∧hexv (UInt8.ofNat n.1)=some ((bits .or .u8 (n.1:Int) 32).toNat - 87))∨
    (103≤bits .or .u8 (n.1:Int) 32∧bits .or .u8 (n.1:Int) 32≤122∧n.1≠95∧hexv (UInt8.ofNat n.1)=none)∨
    ((bits .or .u8 (n.1:Int) 32 < 97∨122 < bits .or .u8 (n.1:Int) 32)∧hexv (UInt8.ofNat n.1)=none))):=by
  decide+kernel
 have e:UInt8.ofNat c.toNat=c:=UInt8.ofNat_toNat
 have h:=key ⟨c.toNat,c.toNat_lt⟩
 simp only [e]at h
 have hn:n8 c=(c.toNat:Int):=rfl
 rcases h with ⟨h1,h2,h3⟩ | ⟨hn1,h⟩
 ·exact .num (by omega) (by omega) h3
 ·have hn2:¬(48≤n8 c∧n8 c≤57):=by omega
  rcases h with ⟨h1,h2,h4,h3⟩ | ⟨h1,h2,h4,h3⟩ | ⟨h1,h3⟩
  ·exact .let_ _ rfl h1 h2 (by omega) hn2 h3
  ·exact .far _ rfl h1 h2 (by omega) hn2 h3
  ·exact .no _ rfl h1 hn2 h3
end Jt
open Jt
theorem q2v (w:World) (l:List UInt8) (h4:l.length=4):Calls Tryz.prog 200 #[.string (sb l), .int .i64 16, .int .i64 16] w fun e w'=>
  e= .returned (parsedV (hexL 0 l))∧Below w.heap.size w w':=by
 have hemp:(sb l).toList.isEmpty=false:=by
  rw [qab];match l,h4 with
  | _::_,_=> rfl
 have hcv:=Lib.run_convert_string_bytes (P:=Tryz.prog) w 9 22 5 (sb l) (u:= .string) Tryz.underlying9 Tryz.underlying22 Tryz.underlying5
 have hB:∀j,j < (sb l).size→(Lib.bytesWorld w 5 (sb l)).cell? ⟨w.heap.size,j,none⟩=some (.int .u8 ((sb l).data.toList.getD j 0).toNat):=fun j hj=> Lib.bytesWorld_cell w 5 (sb l) j hj
 have hb:=Qh (Lib.bytesWorld_below w 5 (sb l))
 have hsz:(sb l).size=4:=h4
 rw [qiy]at hB
 obtain ⟨W1,hW1⟩:∃W1,W1=Lib.bytesWorld w 5 (sb l):=⟨_,rfl⟩
 rw [←hW1]at hcv hB hb
 clear hW1
 have HB:=Qh hB
 clear hB
 have hmv:IntKind.u64.wrap (IntKind.u64.wrap 65536 - 1)=65535:=by
  rw [IntKind.wrap_u64,IntKind.wrap_u64];decide
 have HL4:=Qh h4
 clear h4
 generalize sb l=S at*
 go_enter Tryz.func200,Tryz.ntmps200
 go_wp2_with fail
 go_loopg [12,13,101] 4 (fun g vu vn vi wx=> ∃(k acc:Nat) (a:Int),k+g=4∧vu= .bool false∧vn= .int .u64 a∧vi= .int .i64 (k:Int)∧wx=W1∧Hid (acc < 16 ^ k∧a=(acc:Int))∧Hid (hexL 0 l=hexL acc (l.drop k)))
 case atStart=> exact ⟨0,0,0,by omega,rfl,rfl,rfl,rfl,Qh ⟨by decide,rfl⟩,Qh rfl⟩
 case round=>
  obtain ⟨k,acc,a,hkg,rfl,rfl,rfl,rfl,HAC,HA⟩:=hrel
  cases gk with
  | zero=>
   obtain rfl:k=4:=by omega
   have HE:=Qh (show hexL 0 l=some acc from by
    rw [HA.out,List.drop_eq_nil_of_le (by rw [HL4.out];exact Nat.le_refl _)]
    rfl)
   go_wp2_with fail;go_ret2;exact ⟨by rw [HE.out,HAC.out.2];rfl,hb.out⟩
  | succ g=>
   have hk:k < l.length:=by rw [HL4.out];omega
   have hc:=HB.out k (by rw [hsz];omega)
   have hdr:=at_of l hk
   rw [show l.getD k 0=l[k]from by rw [List.getD_eq_getElem?_getD,List.getElem?_eq_getElem hk];rfl]at hc
   have HS:=Qh (show hexL 0 l=(hexv l[k]).bind fun d=> hexL (acc*16+d) (l.drop (k+1))from by
    rw [HA.out,hdr,hexL])
   clear hdr HA;generalize l[k]=c at*;change _=some (Value.int .u8 (n8 c))at hc
   have hac2:acc≤4095:=by
    have:(16:Nat) ^ k≤16 ^ 3:=Nat.pow_le_pow_right (by decide) (by omega)
    have:=HAC.out.1
    omega
   have HP:=Qh (show (16:Nat) ^ (k+1)=16 ^ k*16 from Nat.pow_succ ..)
   have hk4:(k:Int) < 4:=by omega
   have ha0:0≤a:=by have:=HAC.out.2;omega
   have ha1:a≤4095:=by have:=HAC.out.2;omega
   clear hac2;rcases q3c c with ⟨h0,h1,h⟩ | ⟨x,hx,h0,h1,h95,hn,h⟩ | ⟨x,hx,h0,h1,h95,hn,h⟩ | ⟨x,hx,h0,hn,h⟩
   ·have HN:=Qh (show hexL 0 l=hexL (acc*16+(c.toNat - 48)) (l.drop (k+1))from by rw [HS.out,h];rfl)
    have HE:=Qh (show a*16+(n8 c - 48)=((acc*16+(c.toNat - 48):Nat):Int)from by
     have:=HAC.out.2
     unfold n8 at h0 ⊢
     omega)
    have HN2:=Qh (show acc*16+(c.toNat - 48) < 16 ^ (k+1)from by
     have:=HAC.out.1
     unfold n8 at h1;rw [HP.out];omega)
    clear h;generalize n8 c=d at*;go_wp2_with fail;go_roundg g
    case measure=> omega
    case rel=> exact ⟨k+1,_,a*16+(d - 48),by omega,rfl,(by first | rfl | go_num),by go_num,rfl,Qh ⟨HN2.out,HE.out⟩,HN⟩
   ·have HN:=Qh (show hexL 0 l=hexL (acc*16+(x.toNat - 87)) (l.drop (k+1))from by rw [HS.out,h];rfl)
    have HE:=Qh (show a*16+(x - 97+10)=((acc*16+(x.toNat - 87):Nat):Int)from by
     have:=HAC.out.2
     omega)
    have HN2:=Qh (show acc*16+(x.toNat - 87) < 16 ^ (k+1)from by
     have:=HAC.out.1
     rw [HP.out];omega)
    have HLo:=Qh (fun W=> Tryz.internal_strconv_lower (n8 c) W)
    rw [hx]at HLo
    clear h hx;generalize n8 c=d at*;go_wp2_with (first | (go_at_call 202;refine (HLo.out _).mono ?_;rintro e w' ⟨rfl,rfl⟩) | fail)
    all_goals go_roundg g
    all_goals first
     | exact ⟨k+1,_,a*16+(x - 97+10),by omega,rfl,(by first | rfl | go_num),by go_num,rfl,Qh ⟨HN2.out,HE.out⟩,HN⟩
     | omega
   ·have HN:=Qh (show hexL 0 l=none from by rw [HS.out,h];rfl)
    have HLo:=Qh (fun W=> Tryz.internal_strconv_lower (n8 c) W)
    rw [hx]at HLo
    clear h hx;generalize n8 c=d at*;go_wp2_with (first | (go_at_call 202;refine (HLo.out _).mono ?_;rintro e w' ⟨rfl,rfl⟩) | fail)
    all_goals go_ret2
    all_goals exact ⟨by rw [HN.out];rfl,hb.out⟩
   ·have HN:=Qh (show hexL 0 l=none from by rw [HS.out,h];rfl)
    have HLo:=Qh (fun W=> Tryz.internal_strconv_lower (n8 c) W)
    rw [hx]at HLo
    clear h hx;generalize n8 c=d at*;by_cases h95:d=95
    ·subst h95
     go_wp2_with (first | (go_at_call 202;refine (HLo.out _).mono ?_;rintro e w' ⟨rfl,rfl⟩) | fail)
     all_goals go_ret2
     all_goals exact ⟨by rw [HN.out];rfl,hb.out⟩
    ·go_wp2_with (first | (go_at_call 202;refine (HLo.out _).mono ?_;rintro e w' ⟨rfl,rfl⟩) | fail)
     all_goals go_ret2
     all_goals exact ⟨by rw [HN.out];rfl,hb.out⟩
end Go.Proofs.YtgmangikcfakgaaGreatDoor
namespace Go.Proofs.YtgmangikcfakgaaGreatDoor
open Go.RowKit Sh
namespace Jt
def unitV:Option Nat→Value
 | some n=> .tuple #[.int .i32 (n:Int), .bool true]
 | none=> .tuple #[.int .i32 0, .bool false]
theorem q0j {s:List UInt8} (h:[92,117].isPrefixOf s=false):unitN s=none:=by
 match s with
 | []=> rfl
 | [_]=> rfl
 | x::y::r=>
  rw [unitN,if_neg];rintro ⟨rfl,rfl⟩;cases h
theorem qp2 {s:List UInt8} (h:[92,117].isPrefixOf s=true):s=92::117::s.drop 2:=by
 match s with
 | []=> cases h
 | [x]=> simp [List.isPrefixOf]at h
 | x::y::r=>
  simp [List.isPrefixOf]at h
  obtain ⟨rfl,rfl⟩:=h
  rfl
theorem q0z {s:List UInt8} (h:[92,117].isPrefixOf s=true):unitN s=hex4 (s.drop 2):=by
 have e:=qp2 h
 rw [e,unitN,if_pos ⟨rfl,rfl⟩]
 rfl
theorem qg8 {s:List UInt8} (h:s.length < 4):hex4 s=none:=by
 match s with
 | []=> rfl
 | [_]=> rfl
 | [_,_]=> rfl
 | [_,_,_]=> rfl
 | _::_::_::_::_=> simp only [List.length_cons]at h;omega
theorem qm5 {s:List UInt8} (h:4≤s.length):hex4 s=hexL 0 (s.take 4)∧(s.take 4).length=4:=by
 match s with
 | []=> simp at h
 | [_]=> simp at h
 | [_,_]=> simp at h
 | [_,_,_]=> simp at h
 | a::b::c::d::r=> exact ⟨(qmv a b c d).symm,rfl⟩
theorem q01 {s:List UInt8} {n:Nat} (h4:s.length=4) (h:hexL 0 s=some n):n < 65536:=by
 match s,h4 with
 | [a,b,c,d],_=>
  rw [qmv]at h
  exact (qe9 (r:=[a,b,c,d]) (n:=n) h).1
def parsedP (r:Option Nat) (v:Value):Prop:=match r with
 | some n=> v= .tuple #[.int .u64 (n:Int), .nilIface]
 | none=> ∃p,v= .tuple #[.int .u64 0, .iface 216 (.pointer (some p))]
end Jt
open Jt
theorem qzo (w:World) (l:List UInt8) (h4:l.length=4) (hE:ErrOk w):Calls Tryz.prog 199 #[.string (sb l), .int .i64 16, .int .i64 16] w fun e w'=>
  (∃v,e= .returned v∧parsedP (hexL 0 l) v)∧Below w.heap.size w w':=by
 have HH:=Qh (q2v w l h4)
 have HE:=Qh hE
 clear hE
 go_enter Tryz.func199,Tryz.ntmps199
 go_wp2_with fail
 refine HH.out.mono ?_
 rintro e w1 ⟨rfl,B1⟩
 have HB1:=Qh B1
 have HE1:=Qh (HE.out.below B1)
 clear B1 HH
 cases hr:hexL 0 l with
 | some n=>
  unfold parsedV;go_wp2_with fail;go_ret2;refine ⟨⟨_,rfl, ?_⟩,HB1.out⟩
  rw [hr];rfl
 | none=>
  unfold parsedV;obtain ⟨te,pe,hv⟩:=HE1.out.syn
  have HT:=Qh (Tryz.strconv_toError_syntax ⟨#[80,97,114,115,101,85,105,110,116]⟩ (sb l) 16 16 (.iface te pe) w1 (by rw [qag];omega) hv (.inr ⟨te,pe,rfl⟩))
  clear hv;go_wp2_with fail;refine HT.out.mono ?_
  rintro e w2 ⟨N,rfl, -, -,B2⟩;have HB2:=Qh B2
  clear B2;go_wp2_with fail;go_ret2;refine ⟨⟨_,rfl, ?_⟩,HB1.out.trans (HB2.out.mono HB1.out.size)⟩
  rw [hr];exact ⟨_,rfl⟩
theorem qr9 (w:World) (s:List UInt8) (hs:s.length≤1000000000) (hE:ErrOk w):Calls Tryz.prog 198 #[.string (sb s)] w fun e w'=>
  e= .returned (unitV (unitN s))∧Below w.heap.size w w':=by
 have HC:=Qh (qlr s [92,117] w)
 have HE:=Qh hE
 clear hE
 cases hp:[92,117].isPrefixOf s with
 | false=>
  rw [hp,if_neg (by decide)]at HC
  rw [q0j hp];unfold unitV;clear hp;generalize sb s=S at*;go_enter Tryz.func198,Tryz.ntmps198
  go_wp2_with fail;refine HC.out.mono ?_
  rintro e w1 ⟨rfl,rfl⟩;go_wp2_with fail;go_ret2;exact ⟨rfl,Below.refl _ _⟩
 | true=>
  rw [hp,if_pos rfl]at HC
  change Hid (Calls _ _ _ _ fun e w'=> e= .returned (.tuple #[.string (sb (s.drop 2)), .bool true])∧w'=w)at HC
  rw [q0z hp];have hl:(s.drop 2).length≤1000000000:=by rw [List.length_drop];omega
  generalize s.drop 2=t at*;clear hp hs;have hsz:=qag t
  by_cases h4:t.length < 4
  ·rw [qg8 h4]
   unfold unitV;have h4':(t.length:Int) < 4:=by omega
   generalize sb s=S at*;generalize sb t=T at*;go_enter Tryz.func198,Tryz.ntmps198
   go_wp2_with fail;refine HC.out.mono ?_
   rintro e w1 ⟨rfl,rfl⟩;go_wp2_with fail;go_ret2;exact ⟨rfl,Below.refl _ _⟩
  ·obtain ⟨h5,h6⟩:=qm5 (s:=t) (by omega)
   rw [h5];have HP:=Qh (qzo w (t.take 4) h6 HE.out)
   have hcut:=qcj t 0 4
   rw [List.drop_zero]at hcut
   have h4':¬(t.length:Int) < 4:=by omega
   have HLM:=Qh (fun n h=> q01 (n:=n) h6 h)
   clear h5 h6;generalize t.take 4=u at*;generalize sb s=S at*;generalize sb t=T at*;generalize sb u=U at*;go_enter Tryz.func198,Tryz.ntmps198
   go_wp2_with fail;refine HC.out.mono ?_
   rintro e w1 ⟨rfl,rfl⟩;go_wp2_with fail;refine HP.out.mono ?_
   rintro e w2 ⟨⟨v,rfl,hv⟩,B2⟩;have HB2:=Qh B2
   clear B2 HP HC;cases hr:hexL 0 u with
   | some n=>
    rw [hr]at hv
    have hv':v= .tuple #[.int .u64 (n:Int), .nilIface]:=hv
    subst hv'
    have hn:=HLM.out n hr
    have hn2:(n:Int) < 65536:=by omega
    have hn0:0≤(n:Int):=by omega
    clear hv hn;go_wp2_with fail;go_ret2;exact ⟨by rw [hr];rfl,HB2.out⟩
   | none=>
    rw [hr]at hv
    obtain ⟨p,rfl⟩:∃p,v= .tuple #[.int .u64 0, .iface 216 (.pointer (some p))]:=hv
    go_wp2_with fail;go_ret2;exact ⟨by rw [hr];rfl,HB2.out⟩
namespace Jt
def escV:Option (Nat×Nat)→Value
 | some p=> .tuple #[.int .i32 (p.1:Int), .int .i64 (p.2:Int)]
 | none=> .tuple #[.int .i32 0, .int .i64 0]
theorem qpx {s:List UInt8} {n:Nat} (h:unitN s=some n):n < 65536∧6≤s.length:=⟨(qgx h).1,(qgx h).2.1⟩
end Jt
theorem qn3 (w:World) (s:List UInt8) (hs:s.length≤1000000000) (hE:ErrOk w):Calls Tryz.prog 197 #[.string (sb s)] w fun e w'=>
  e= .returned (escV (uniN s))∧Below w.heap.size w w':=by
 have HU:=Qh (qr9 w s hs hE)
 have HE:=Qh hE
 clear hE
 unfold uniN
 have hsz:=qag s
 cases hu:unitN s with
 | none=>
  rw [hu]at HU
  unfold unitV at HU;show Calls _ _ _ _ fun e w'=> e= .returned (escV none)∧_
  unfold escV;clear hu;generalize sb s=S at*;go_enter Tryz.func197,Tryz.ntmps197
  go_wp2_with fail;refine HU.out.mono ?_
  rintro e w1 ⟨rfl,B1⟩;have HB1:=Qh B1
  clear B1 HU;go_wp2_with fail;go_ret2;exact ⟨rfl,HB1.out⟩
 | some n=>
  rw [hu]at HU
  unfold unitV at HU;dsimp only at HU
  obtain ⟨hn,h6⟩:=qpx hu
  have hn1:(n:Int) < 65536:=by omega
  have hn0:0≤(n:Int):=by omega
  show Calls _ _ _ _ fun e w'=> e= .returned (escV (if n < 55296∨57344≤n then some (n,6) else pairN n (s.drop 6)))∧_
  by_cases hc:n < 55296∨57344≤n
  ·rw [if_pos hc]
   unfold escV;have hc':(n:Int) < 55296∨57344≤(n:Int):=by omega
   clear hu hc hn;generalize sb s=S at*;go_enter Tryz.func197,Tryz.ntmps197
   go_wp2_with fail;refine HU.out.mono ?_
   rintro e w1 ⟨rfl,B1⟩;have HB1:=Qh B1
   clear B1 HU;rcases hc' with hc' | hc'
   ·go_wp2_with fail
    go_ret2;exact ⟨rfl,HB1.out⟩
   ·have hc2:¬(n:Int) < 55296:=by omega
    go_wp2_with fail;go_ret2;exact ⟨rfl,HB1.out⟩
  ·rw [if_neg hc]
   have hc1:55296≤(n:Int):=by omega
   have hc2:(n:Int) < 57344:=by omega
   have hcut:=qcj s 6 s.length
   rw [List.take_length]at hcut
   have HU2:=Qh (fun W (hW:ErrOk W)=> qr9 W (s.drop 6) (by rw [List.length_drop];omega) hW)
   have h6':6≤(s.length:Int):=by omega
   clear hu hc hn h6 hs;unfold pairN;generalize s.drop 6=t at*;generalize sb s=S at*;generalize s.length=ln at*;generalize sb t=T at*;obtain ⟨z,hz⟩:∃z:Int,z=(n:Int):=⟨_,rfl⟩
   rw [←hz]at hc1 hc2 hn1 hn0 HU
   have HZ0:=Qh hz
   clear hz;go_enter Tryz.func197,Tryz.ntmps197
   go_wp2_with fail;refine HU.out.mono ?_
   rintro e w1 ⟨rfl,B1⟩;have HB1:=Qh B1
   have HE1:=Qh (HE.out.below B1)
   clear B1 HU;go_wp2_with fail;refine (HU2.out _ HE1.out).mono ?_
   rintro e w2 ⟨rfl,B2⟩;have HB2:=Qh (HB1.out.trans (B2.mono HB1.out.size))
   clear B2 HU2;cases hm:unitN t with
   | none=>
    unfold unitV;go_wp2_with fail;go_ret2;exact ⟨by rw [hm];rfl,HB2.out⟩
   | some m=>
    have hml:=(qpx hm).1
    obtain ⟨y,hy⟩:∃y:Int,y=(m:Int):=⟨_,rfl⟩
    have hm1:y < 65536:=by omega
    have hm0:0≤y:=by omega
    clear hml;unfold unitV;by_cases hb:56320≤n∨m < 56320∨57344≤m
    ·have HX:=Qh (show ((unitN t).bind fun m=> if 56320≤n∨m < 56320∨57344≤m then none else some (65536+(n - 55296)*1024+(m - 56320),12))=none from by
      rw [hm];exact if_pos hb)
     have hb':56320≤z∨y < 56320∨57344≤y:=by have:=HZ0.out;omega
     dsimp only
     rw [←hy];clear hm hb hy;rcases hb' with hb | hb
     ·go_wp2_with fail
      go_ret2;exact ⟨by rw [HX.out];rfl,HB2.out⟩
     by_cases hn56:56320≤z
     ·go_wp2_with fail
      go_ret2;exact ⟨by rw [HX.out];rfl,HB2.out⟩
     rcases hb with hb | hb
     ·go_wp2_with fail
      go_ret2;exact ⟨by rw [HX.out];rfl,HB2.out⟩
     ·have hb2:¬y < 56320:=by omega
      go_wp2_with fail;go_ret2;exact ⟨by rw [HX.out];rfl,HB2.out⟩
    ·have HX:=Qh (show ((unitN t).bind fun m=> if 56320≤n∨m < 56320∨57344≤m then none else some (65536+(n - 55296)*1024+(m - 56320),12))=some (65536+(n - 55296)*1024+(m - 56320),12)from by
      rw [hm];exact if_neg hb)
     have hb1:z < 56320:=by have:=HZ0.out;omega
     have hb2:56320≤y:=by omega
     have hb3:y < 57344:=by omega
     have HZ:=Qh (show (((65536+(n - 55296)*1024+(m - 56320):Nat)):Int)=65536+(z - 55296)*1024+(y - 56320)from by have:=HZ0.out;omega)
     dsimp only
     rw [←hy];clear hm hb hy;go_wp2_with fail;go_ret2;refine ⟨?_,HB2.out⟩
     rw [HX.out];show _=Ending.returned (.tuple #[.int .i32 _, .int .i64 _])
     rw [HZ.out];rfl
namespace Jt
theorem q2f {s:List UInt8} (h:[92,117].isPrefixOf s=true):escN s=uniN s:=by
 unfold escN
 rw [if_pos]
 rw [qp2 h]
 rfl
theorem qsv {s:List UInt8} (h:[92,117].isPrefixOf s=false):¬s.take 2=[92,117]:=by
 intro e
 match s with
 | []=> cases e
 | [_]=> cases e
 | x::y::r=>
  have e:[x,y]=[92,117]:=e
  injection e with e1 e2
  injection e2 with e2 _
  subst e1;subst e2;cases h
theorem qvo {s:List UInt8} (h:[92,117].isPrefixOf s=false) (hl:s.length < 2):escN s=none:=by
 unfold escN
 rw [if_neg (qsv h)]
 match s with
 | []=> rfl
 | [_]=> rfl
 | _::_::_=> simp only [List.length_cons]at hl;omega
theorem q1k {s:List UInt8} (h:[92,117].isPrefixOf s=false) (hl:1 < s.length):escN s=if Lib.indexByte lets s[1] < 0 then none else some ((means.getD (Lib.indexByte lets s[1]).toNat 0).toNat,2):=by
 unfold escN
 rw [if_neg (qsv h)]
 match s,hl with
 | x::y::r,_=> rfl
theorem q20 {l:List UInt8} {c:UInt8} (h:0≤Lib.indexByte l c):∃j:Nat,Lib.indexByte l c=(j:Int)∧j < l.length:=by
 induction l with
 | nil=> exact absurd (show (0:Int)≤ -1 from h) (by decide)
 | cons a r ih=>
  rw [Lib.indexByte]at h ⊢
  by_cases ha:a==c
  ·rw [if_pos ha]
   exact ⟨0,rfl,by simp⟩
  ·rw [if_neg ha]at h ⊢
   by_cases hm:(Lib.indexByte r c== -1)=true
   ·rw [if_pos hm]at h
    exact absurd h (by decide)
   ·rw [if_neg hm]at h ⊢
    have hge:=Lib.indexByte_ge r c
    have hne:Lib.indexByte r c≠ -1:=fun e=> hm (by rw [e];rfl)
    obtain ⟨j,hj,hl⟩:=ih (by omega)
    exact ⟨j+1,by rw [hj];rfl,by rw [List.length_cons];omega⟩
theorem qug {j:Nat} (h:j < 8) (W:World):(Instr.index 9 (.string (sb means)) (.int .i64 (j:Int))).run Tryz.prog W= .ok (.int .u8 (n8 (means.getD j 0))) W:=by
 rw [qam means j h W]
 congr 4
 rw [List.getD_eq_getElem?_getD,List.getElem?_eq_getElem h]
 rfl
end Jt
theorem qvn (w:World) (s:List UInt8) (hs:s.length≤1000000000) (hE:ErrOk w):Calls Tryz.prog 190 #[.string (sb s)] w fun e w'=>
  e= .returned (escV (escN s))∧Below w.heap.size w w':=by
 have HH:=Qh (qo2 s [92,117] w)
 have hsz:=qag s
 cases hp:[92,117].isPrefixOf s with
 | true=>
  rw [hp]at HH
  rw [q2f hp];have HU:=Qh (qn3 w s hs hE)
  clear hp hE;go_enter Tryz.func190,Tryz.ntmps190
  go_wp2_with fail;refine HH.out.mono ?_
  rintro e w1 ⟨rfl,rfl⟩;go_wp2_with fail;refine HU.out.mono ?_
  rintro e w2 ⟨rfl,B2⟩;have HB2:=Qh B2
  clear B2 HU HH;cases hu:uniN s with
  | none=>
   unfold escV;go_wp2_with fail;go_ret2;exact ⟨by rw [hu];rfl,HB2.out⟩
  | some p=>
   unfold escV;go_wp2_with fail;go_ret2;exact ⟨by rw [hu];rfl,HB2.out⟩
 | false=>
  rw [hp]at HH
  by_cases h2:s.length < 2
  ·rw [qvo hp h2]
   unfold escV;have h2':(s.length:Int) < 2:=by omega
   clear hp hE;generalize sb s=S at*;go_enter Tryz.func190,Tryz.ntmps190
   go_wp2_with fail;refine HH.out.mono ?_
   rintro e w1 ⟨rfl,rfl⟩;go_wp2_with fail;go_ret2;exact ⟨rfl,Below.refl _ _⟩
  ·have hl:1 < s.length:=by omega
   have hix:=fun W=> qam s 1 hl W
   have HI:=Qh (fun W=> qkm lets s[1] W)
   have hes:=q1k hp hl
   rw [hes];have h2':¬(s.length:Int) < 2:=by omega
   have HK:=Qh (fun (h:0≤Lib.indexByte lets s[1])=> q20 h)
   clear hp hE hes hs h2;generalize s[1]=c at*;change ∀W,(Instr.index 9 (.string (sb s)) (.int .i64 1)).run Tryz.prog W=_ at hix
   generalize sb s=S at*;generalize s.length=ln at*;by_cases hi:Lib.indexByte lets c < 0
   ·rw [if_pos hi]
    generalize Lib.indexByte lets c=z at*;unfold escV;go_enter Tryz.func190,Tryz.ntmps190
    go_wp2_with fail;refine HH.out.mono ?_
    rintro e w1 ⟨rfl,rfl⟩;go_wp2_with fail;refine (HI.out _).mono ?_
    rintro e w1 ⟨rfl,rfl⟩;go_wp2_with fail;go_ret2;exact ⟨rfl,Below.refl _ _⟩
   ·rw [if_neg hi]
    obtain ⟨j,hj,hj8⟩:=HK.out (by omega)
    rw [hj]at HI ⊢
    have hj8:j < 8:=hj8
    have hmx:∀W,(Instr.index 9 (.string ⟨#[34,92,8,12,10,13,9,47]⟩) (.int .i64 (j:Int))).run Tryz.prog W= .ok (.int .u8 (n8 (means.getD j 0))) W:=fun W=> qug hj8 W
    rw [show ((j:Int)).toNat=j from Int.toNat_natCast j];have hmlt:=n8_lt (means.getD j 0)
    have hmge:=qec (means.getD j 0)
    have HV:=Qh (show escV (some ((means.getD j 0).toNat,2))= .tuple #[.int .i32 (n8 (means.getD j 0)), .int .i64 2]from rfl)
    clear hi hj HK;generalize means.getD j 0=d at*;go_enter Tryz.func190,Tryz.ntmps190
    go_wp2_with fail;refine HH.out.mono ?_
    rintro e w1 ⟨rfl,rfl⟩;go_wp2_with fail;refine (HI.out _).mono ?_
    rintro e w1 ⟨rfl,rfl⟩;go_wp2_with fail;go_ret2;exact ⟨by rw [HV.out];rfl,Below.refl _ _⟩
end Go.Proofs.YtgmangikcfakgaaGreatDoor
namespace Go.Proofs.YtgmangikcfakgaaGreatDoor
open Go.RowKit Sh
namespace Jt
def hexZ (s:List UInt8):Int:=match hex4 s with
 | some n=> (n:Int)
 | none=> -1
theorem q2b (s:List UInt8) (j:Nat) (hj:j < 4) (hs:j < s.length):(s.take 4).drop j=s[j]::(s.take 4).drop (j+1):=by
 rw [at_of (s.take 4) (by rw [List.length_take];omega),List.getElem_take]
inductive HexIs (c:UInt8):Prop where
 | num (h0:48≤n8 c) (h1:n8 c≤57) (h:hexv c=some (c.toNat - 48))
 | low (h0:97≤n8 c) (h1:n8 c≤102) (h:hexv c=some (c.toNat - 87))
 | up (h0:65≤n8 c) (h1:n8 c≤70) (h:hexv c=some (c.toNat - 55))
 | no (h0:¬(48≤n8 c∧n8 c≤57)) (h1:¬(97≤n8 c∧n8 c≤102)) (h2:¬(65≤n8 c∧n8 c≤70)) (h:hexv c=none)
theorem q3d (c:UInt8):HexIs c:=by
 have e:n8 c=(c.toNat:Int):=rfl
 by_cases h1:48≤c.toNat∧c.toNat≤57
 ·exact .num (by omega) (by omega) (by rw [hexv,if_pos h1])
 by_cases h2:97≤c.toNat∧c.toNat≤102
 ·exact .low (by omega) (by omega) (by rw [hexv,if_neg h1,if_pos h2])
 by_cases h3:65≤c.toNat∧c.toNat≤70
 ·exact .up (by omega) (by omega) (by rw [hexv,if_neg h1,if_neg h2,if_pos h3])
 ·exact .no (by omega) (by omega) (by omega) (by rw [hexv,if_neg h1,if_neg h2,if_neg h3])
end Jt
open Jt
theorem qr7 (w:World) (s:List UInt8) (hl:s.length≤1000000000):Calls Tryz.prog 194 #[.string (sb s)] w fun e w'=> e= .returned (.int .i64 (hexZ s))∧w'=w:=by
 have hsz:=qag s
 by_cases h4:s.length < 4
 ·have HE:=Qh (show hexZ s= -1 from by unfold hexZ;rw [qg8 h4])
  rw [HE.out];have h4i:(s.length:Int) < 4:=by omega
  clear h4 hl;generalize sb s=S at*;generalize s.length=ln at*;go_enter Tryz.func194,Tryz.ntmps194
  go_wp2_with fail;go_ret;exact ⟨rfl,rfl⟩
 ·obtain ⟨h5,h6⟩:=qm5 (s:=s) (by omega)
  have HE:=Qh h5
  have h4i:¬(s.length:Int) < 4:=by omega
  have HX:=Qh (fun (j:Nat) (hj:j < s.length) W=> qam s j hj W)
  have HG:=Qh (q2b s)
  have HL:=Qh (show 4≤s.length from by omega)
  have HT:=Qh h6
  clear h4 hl h5 h6;generalize hS:sb s=S at*;clear hS;obtain ⟨ln,hln⟩:∃ln,ln=s.length:=⟨_,rfl⟩
  rw [←hln]at h4i hsz
  have HLN:=Qh hln.symm
  have HL:Hid (4≤ln):=Qh (by rw [hln];exact HL.out)
  clear hln;go_enter Tryz.func194,Tryz.ntmps194
  go_wp2_with fail;go_loopg [3,4] 4 (fun g vn vi wx=> ∃(k acc:Nat) (z:Int),k+g=4∧vn= .int .i64 z∧vi= .int .i64 (k:Int)∧0≤z∧z≤65535∧wx=w∧Hid (z=(acc:Int)∧acc < 16 ^ k)∧Hid (hexL 0 (s.take 4)=hexL acc ((s.take 4).drop k)))
  case atStart=> exact ⟨0,0,0,by omega,rfl,rfl,by omega,by omega,rfl,Qh ⟨rfl,by decide⟩,Qh rfl⟩
  case round=>
   obtain ⟨k,acc,z,hkg,rfl,rfl,hz0,hz1,rfl,HA,HH⟩:=hrel
   cases gk with
   | zero=>
    obtain rfl:k=4:=by omega
    have HF:=Qh (show hexZ s=z from by
     unfold hexZ;rw [HE.out,HH.out,List.drop_eq_nil_of_le (by rw [HT.out];exact Nat.le_refl _),hexL,HA.out.1])
    go_wp2_with fail;go_ret;exact ⟨by rw [HF.out];rfl,rfl⟩
   | succ g=>
    have hk:k < s.length:=by rw [HLN.out];have:=HL.out;omega
    have hix:=HX.out k hk
    have HH2:=HH.out
    rw [HG.out k (by omega) hk]at HH2
    have hk4:(k:Int) < 4:=by omega
    have hkl:(k:Int) < (ln:Int):=by have:=HL.out;omega
    have hzb:z≤4095:=by
     have:(16:Nat) ^ k≤16 ^ 3:=Nat.pow_le_pow_right (by decide) (by omega)
     have:=HA.out
     omega
    have HP:=Qh (show (16:Nat) ^ (k+1)=16 ^ k*16 from Nat.pow_succ ..)
    clear HH;generalize s[k]=c at*;rcases q3d c with ⟨h0,h1,h⟩ | ⟨h0,h1,h⟩ | ⟨h0,h1,h⟩ | ⟨h0,h1,h2,h⟩
    ·have HN:=Qh (show hexL 0 (s.take 4)=hexL (acc*16+(c.toNat - 48)) ((s.take 4).drop (k+1))from by rw [HH2,hexL,h];rfl)
     have HN2:=Qh (show 16*z+(n8 c - 48)=((acc*16+(c.toNat - 48):Nat):Int)∧acc*16+(c.toNat - 48) < 16 ^ (k+1)from by
      have:=HA.out
      unfold n8 at h0 h1 ⊢
      rw [HP.out];omega)
     clear h HH2;generalize n8 c=d at*;go_wp2_with fail;go_roundg g
     case measure=> omega
     case rel=> exact ⟨k+1,_,16*z+(d - 48),by omega,(by first | rfl | go_num),by go_num,by omega,by omega,rfl,HN2,HN⟩
    ·have HN:=Qh (show hexL 0 (s.take 4)=hexL (acc*16+(c.toNat - 87)) ((s.take 4).drop (k+1))from by rw [HH2,hexL,h];rfl)
     have HN2:=Qh (show 16*z+(n8 c - 97)+10=((acc*16+(c.toNat - 87):Nat):Int)∧acc*16+(c.toNat - 87) < 16 ^ (k+1)from by
      have:=HA.out
      unfold n8 at h0 h1 ⊢
      rw [HP.out];omega)
     clear h HH2;generalize n8 c=d at*;go_wp2_with fail;go_roundg g
     case measure=> omega
     case rel=> exact ⟨k+1,_,16*z+(d - 97)+10,by omega,(by first | rfl | go_num),by go_num,by omega,by omega,rfl,HN2,HN⟩
    ·have HN:=Qh (show hexL 0 (s.take 4)=hexL (acc*16+(c.toNat - 55)) ((s.take 4).drop (k+1))from by rw [HH2,hexL,h];rfl)
     have HN2:=Qh (show 16*z+(n8 c - 65)+10=((acc*16+(c.toNat - 55):Nat):Int)∧acc*16+(c.toNat - 55) < 16 ^ (k+1)from by
      have:=HA.out
      unfold n8 at h0 h1 ⊢
      rw [HP.out];omega)
     clear h HH2;generalize n8 c=d at*;go_wp2_with fail;go_roundg g
     case measure=> omega
     case rel=> exact ⟨k+1,_,16*z+(d - 65)+10,by omega,(by first | rfl | go_num),by go_num,by omega,by omega,rfl,HN2,HN⟩
    ·have HF:=Qh (show hexZ s= -1 from by
      unfold hexZ;rw [HE.out,HH2,hexL,h];rfl)
     clear h HH2;generalize n8 c=d at*;go_wp2_with fail;all_goals go_ret
     all_goals exact ⟨by rw [HF.out];rfl,rfl⟩
end Go.Proofs.YtgmangikcfakgaaGreatDoor
namespace Go.Proofs.YtgmangikcfakgaaGreatDoor
open Go.RowKit Sh
namespace Jt
def rsigns:List UInt8:=[98,116,110,102,114,34,47,92]
def rmeans:List Nat:=[8,9,10,12,13,34,47,92]
theorem qy4 {a:UInt8} {r:List UInt8} {j:Nat} (h:j < 8) (e:a=rsigns.getD j 0):escF (a::r)=some (bytesF (rmeans.getD j 0),1)∧scalar (rmeans.getD j 0)=true∧rmeans.getD j 0 < 128:=by
 match j,h with
 | 0,_=> exact ⟨by rw [show a=98 from e];rfl,by decide,by decide⟩
 | 1,_=> exact ⟨by rw [show a=116 from e];rfl,by decide,by decide⟩
 | 2,_=> exact ⟨by rw [show a=110 from e];rfl,by decide,by decide⟩
 | 3,_=> exact ⟨by rw [show a=102 from e];rfl,by decide,by decide⟩
 | 4,_=> exact ⟨by rw [show a=114 from e];rfl,by decide,by decide⟩
 | 5,_=> exact ⟨by rw [show a=34 from e];rfl,by decide,by decide⟩
 | 6,_=> exact ⟨by rw [show a=47 from e];rfl,by decide,by decide⟩
 | 7,_=> exact ⟨by rw [show a=92 from e];rfl,by decide,by decide⟩
theorem qw3 {a:UInt8} {r:List UInt8} (h:∀j,j < 8→a≠rsigns.getD j 0):escF (a::r)=if a=117 then (hex4 r).bind fun n=> if n < 55296∨57343 < n then some (bytesF n,5) else if 56319 < n then none else lowF n (r.drop 4) else none:=by
 have h0:a≠98:=h 0 (by decide)
 have h1:a≠116:=h 1 (by decide)
 have h2:a≠110:=h 2 (by decide)
 have h3:a≠102:=h 3 (by decide)
 have h4:a≠114:=h 4 (by decide)
 have h5:a≠34:=h 5 (by decide)
 have h6:a≠47:=h 6 (by decide)
 have h7:a≠92:=h 7 (by decide)
 rw [escF,if_neg h0,if_neg h1,if_neg h2,if_neg h3,if_neg h4,if_neg h5,if_neg h6,if_neg h7]
def escFV:Option (List UInt8×Nat)→Value
 | some p=> .tuple #[.string (sb p.1), .int .i64 (p.2:Int)]
 | none=> .tuple #[.string ⟨#[]⟩, .int .i64 0]
theorem qs9 (x:List UInt8) (k:Nat):escFV (some (x,k))= .tuple #[.string (sb x), .int .i64 (k:Int)]:=rfl
theorem qu3 {n:Nat} {s:List UInt8} (h:s.length < 6):lowF n s=none:=by
 match s with
 | []=> rfl
 | [_]=> rfl
 | x::y::r=>
  simp only [List.length_cons]at h
  rw [lowF,qg8 (by omega)];split <;> rfl
theorem q23 {n:Nat} {x y:UInt8} {r:List UInt8} (h:¬(x=92∧y=117)):lowF n (x::y::r)=none:=by rw [lowF,if_neg h]
theorem q2t {n:Nat} {r:List UInt8}:lowF n (92::117::r)=(hex4 r).bind fun m=> if 56320≤m∧m≤57343 then some (bytesF (65536+(n - 55296)*1024+(m - 56320)),11) else none:=by rw [lowF,if_pos ⟨rfl,rfl⟩]
theorem qp7 {s:List UInt8} (h:hex4 s=none):hexZ s= -1:=by unfold hexZ;rw [h]
theorem qon {s:List UInt8} {n:Nat} (h:hex4 s=some n):hexZ s=(n:Int)∧n < 65536:=⟨by unfold hexZ;rw [h],(qe9 h).1⟩
end Jt
open Jt
theorem q1i (w:World) (s:List UInt8) (hl:s.length≤1000000000):Calls Tryz.prog 173 #[.string (sb s)] w fun e w'=> e= .returned (escFV (escF s))∧Below w.heap.size w w':=by
 match s with
 | []=>
  have h1:(sb []).toList=[]:=qab _
  show Calls _ _ _ _ fun e w'=> e= .returned (.tuple #[.string ⟨#[]⟩, .int .i64 0])∧_
  go_enter Tryz.func173,Tryz.ntmps173
  go_wp2_with fail;go_ret2;exact ⟨rfl,Below.refl _ _⟩
 | a::r=>
  have h1:¬(sb (a::r)).toList=[]:=by rw [qab];exact List.cons_ne_nil _ _
  have h2:(sb (a::r)).toList.isEmpty=false:=by rw [qab];rfl
  have hix:∀W,(Instr.index 9 (.string (sb (a::r))) (.int .i64 0)).run Tryz.prog W= .ok (.int .u8 (n8 a)) W:=fun W=> qam (a::r) 0 (by simp) W
  have hcv:=qdk w [92] #[.int .u8 92] rfl 1 rfl
  have happ:(⟨#[98,116,110,102,114,34,47]⟩:ByteArray)++sb [92]=sb rsigns:=qom [98,116,110,102,114,34,47] [92]
  have hns:¬9223372036854775807 < (⟨#[98,116,110,102,114,34,47]⟩:ByteArray).size+(sb [92]).size:=qoj (a:=[98,116,110,102,114,34,47]) (b:=[92]) (by decide)
  have HB0:=Qh (((Below.refl w.heap.size w).alloc (Nat.le_refl _) (.cells #[.int .u8 92] 5)).alloc (by simp) (.cells #[.int .i64 8, .int .i64 9, .int .i64 10, .int .i64 12, .int .i64 13, .int .i64 34, .int .i64 47, .int .i64 92] 206))
  have HR:=Qh (Row.new (w.alloc (.cells #[.int .u8 92] 5)) 206 [.int .i64 8, .int .i64 9, .int .i64 10, .int .i64 12, .int .i64 13, .int .i64 34, .int .i64 47, .int .i64 92])
  rw [World.size_alloc]at HR
  have HSX:=Qh (fun (j:Nat) (hj:j < rsigns.length) W=> qam rsigns j hj W)
  obtain ⟨ln,hln⟩:∃ln,ln=r.length+1:=⟨_,rfl⟩
  have hsz:(sb (a::r)).size=ln:=hln.symm
  have hcut:(sb (a::r)).extract 1 ln=sb r:=sb_from' (a::r) 1 ln hln
  have hcut7:(sb (a::r)).extract 7 ln=sb (r.drop 6):=sb_from' (a::r) 7 ln hln
  have HLN:=Qh hln
  have hln1:1≤(ln:Int):=by omega
  rw [List.length_cons]at hl
  have HHX:=Qh (fun W=> qr7 W r (by omega))
  have HHY:=Qh (fun W=> qr7 W (r.drop 6) (by rw [List.length_drop];omega))
  have HI5:=Qh (fun (h:4 < r.length) W=> qe4 a r 5 (by decide) h W)
  have HI6:=Qh (fun (h:5 < r.length) W=> qe4 a r 6 (by decide) h W)
  have HRM:Hid (∀j,j < 8→[(.int .i64 8:Value), .int .i64 9, .int .i64 10, .int .i64 12, .int .i64 13, .int .i64 34, .int .i64 47, .int .i64 92][j]? =some (.int .i64 ((rmeans.getD j 0:Nat):Int))):=Qh (fun j hj=> by
   match j,hj with
   | 0,_=> rfl
   | 1,_=> rfl
   | 2,_=> rfl
   | 3,_=> rfl
   | 4,_=> rfl
   | 5,_=> rfl
   | 6,_=> rfl
   | 7,_=> rfl)
  clear hln hl;generalize sb rsigns=G at*;go_enter Tryz.func173,Tryz.ntmps173
  go_wp2_with fail;generalize hw1:(w.alloc (.cells #[.int .u8 92] 5)).alloc (.cells #[.int .i64 8, .int .i64 9, .int .i64 10, .int .i64 12, .int .i64 13, .int .i64 34, .int .i64 47, .int .i64 92] 206)=w1 at*;clear hw1 hcv happ hns;go_loopg [6] 8 (fun g vi wx=> ∃j:Nat,j+g=8∧vi= .int .i64 (j:Int)∧Hid (∀i,i < j→a≠rsigns.getD i 0)∧Hid (Row wx (w.heap.size+1) 206 [.int .i64 8, .int .i64 9, .int .i64 10, .int .i64 12, .int .i64 13, .int .i64 34, .int .i64 47, .int .i64 92])∧Hid (Below w.heap.size w wx))
  case atStart=> exact ⟨0,by omega,rfl,Qh (fun i h=> absurd h (Nat.not_lt_zero _)),HR,HB0⟩
  case round=>
   obtain ⟨j,hjg,rfl,HJ,HRR,HB⟩:=hrel
   clear HR HB0;cases gk with
   | zero=>
    obtain rfl:j=8:=by omega
    have HO:=Qh (qw3 (r:=r) HJ.out)
    clear HJ HRR HSX HRM hjg;go_wp2_with fail;refine (HHX.out _).mono ?_
    rintro e w2 ⟨rfl,rfl⟩;clear HHX;by_cases ha:a=117
    ·subst ha
     have hix:∀W,(Instr.index 9 (.string (sb (117::r))) (.int .i64 0)).run Tryz.prog W= .ok (.int .u8 117) W:=hix
     cases hh:hex4 r with
     | none=>
      have HF:=Qh (show escFV (escF (117::r))= .tuple #[.string ⟨#[]⟩, .int .i64 0]from by rw [HO.out,if_pos rfl,hh];rfl)
      rw [qp7 hh];clear hh;generalize sb (117::r)=S at*;go_wp2_with fail;go_ret2;exact ⟨by rw [HF.out];rfl,HB.out⟩
     | some n=>
      obtain ⟨hz,hn⟩:=qon hh
      have HO2:=Qh (show escF (117::r)=if n < 55296∨57343 < n then some (bytesF n,5) else if 56319 < n then none else lowF n (r.drop 4)from by rw [HO.out,if_pos rfl,hh];rfl)
      rw [hz];obtain ⟨z,hz0⟩:∃z:Int,z=(n:Int):=⟨_,rfl⟩
      rw [←hz0];have hz1:0≤z:=by omega
      have hz2:z < 65536:=by omega
      have HZ:=Qh hz0
      clear hh hz hz0;by_cases hr:n < 55296∨57343 < n
      ·have HF:=Qh (show escFV (escF (117::r))= .tuple #[.string (sb (bytesF n)), .int .i64 5]from by rw [HO2.out,if_pos hr];rfl)
       have HBy:=Qh (fun W=> qj6 W n (qal.2 (by omega)))
       rw [←HZ.out]at HBy
       have hr2:z < 55296∨57343 < z:=by have:=HZ.out;omega
       clear hr hn;generalize sb (117::r)=S at*;generalize sb (bytesF n)=X at*;rcases hr2 with hr2 | hr2
       ·go_wp2_with fail
        refine (HBy.out _).mono ?_
        rintro e w3 ⟨rfl,B3⟩;have HB3:=Qh (HB.out.trans (B3.mono HB.out.size))
        clear B3;go_wp2_with fail;go_ret2;exact ⟨by rw [HF.out];rfl,HB3.out⟩
       ·have hr3:¬z < 55296:=by omega
        go_wp2_with fail;refine (HBy.out _).mono ?_
        rintro e w3 ⟨rfl,B3⟩;have HB3:=Qh (HB.out.trans (B3.mono HB.out.size))
        clear B3;go_wp2_with fail;go_ret2;exact ⟨by rw [HF.out];rfl,HB3.out⟩
      have hr1:55296≤z:=by have:=HZ.out;omega
      have hr2:z≤57343:=by have:=HZ.out;omega
      by_cases hq:56319 < n
      ·have HF:=Qh (show escFV (escF (117::r))= .tuple #[.string ⟨#[]⟩, .int .i64 0]from by rw [HO2.out,if_neg hr,if_pos hq];rfl)
       have hq2:56319 < z:=by have:=HZ.out;omega
       clear hr hq hn;generalize sb (117::r)=S at*;go_wp2_with fail;go_ret2;exact ⟨by rw [HF.out];rfl,HB.out⟩
      have HO3:=Qh (show escF (117::r)=lowF n (r.drop 4)from by rw [HO2.out,if_neg hr,if_neg hq])
      have hq2:z≤56319:=by have:=HZ.out;omega
      by_cases h11:ln < 11
      ·have HF:=Qh (show escFV (escF (117::r))= .tuple #[.string ⟨#[]⟩, .int .i64 0]from by
        rw [HO3.out,qu3 (by rw [List.length_drop];have:=HLN.out;omega)]
        rfl)
       have hi11:(ln:Int) < 11:=by omega
       clear hr hq hn h11;generalize sb (117::r)=S at*;go_wp2_with fail;go_ret2;exact ⟨by rw [HF.out];rfl,HB.out⟩
      have h5:5 < r.length:=by have:=HLN.out;omega
      have h4:4 < r.length:=by omega
      have hix5:∀W,(Instr.index 9 (.string (sb (117::r))) (.int .i64 5)).run Tryz.prog W= .ok (.int .u8 (n8 r[4])) W:=HI5.out h4
      have hix6:∀W,(Instr.index 9 (.string (sb (117::r))) (.int .i64 6)).run Tryz.prog W= .ok (.int .u8 (n8 r[5])) W:=HI6.out h5
      have hdr:r.drop 4=r[4]::r[5]::r.drop 6:=by rw [at_of r (show 4 < r.length by omega),at_of r h5]
      have HO4:=Qh (show escF (117::r)=lowF n (r[4]::r[5]::r.drop 6)from by rw [HO3.out,hdr])
      have hi11:¬(ln:Int) < 11:=by omega
      clear hdr HI5 HI6 h11 HO2 HO3 HO;generalize r[4]=x at*;generalize r[5]=y at*;have hi7:7≤(ln:Int):=by omega
      by_cases hxy:x=92∧y=117
      ·obtain ⟨rfl,rfl⟩:=hxy
       have hix5:∀W,(Instr.index 9 (.string (sb (117::r))) (.int .i64 5)).run Tryz.prog W= .ok (.int .u8 92) W:=hix5
       have hix6:∀W,(Instr.index 9 (.string (sb (117::r))) (.int .i64 6)).run Tryz.prog W= .ok (.int .u8 117) W:=hix6
       have HO5:=Qh (HO4.out.trans q2t)
       generalize r.drop 6=u at*;generalize sb (117::r)=S at*;go_wp2_with fail;refine (HHY.out _).mono ?_
       rintro e w2 ⟨rfl,rfl⟩;cases hm:hex4 u with
       | none=>
        have HF:=Qh (show escFV (escF (117::r))= .tuple #[.string ⟨#[]⟩, .int .i64 0]from by rw [HO5.out,hm];rfl)
        rw [qp7 hm];clear hm hr hq hn;go_wp2_with fail;go_ret2;exact ⟨by rw [HF.out];rfl,HB.out⟩
       | some m=>
        obtain ⟨hz,hm2⟩:=qon hm
        have HO6:=Qh (show escF (117::r)=if 56320≤m∧m≤57343 then some (bytesF (65536+(n - 55296)*1024+(m - 56320)),11) else none from by rw [HO5.out,hm];rfl)
        rw [hz];obtain ⟨v,hv⟩:∃v:Int,v=(m:Int):=⟨_,rfl⟩
        rw [←hv];have hv0:0≤v:=by omega
        have hv1:v < 65536:=by omega
        have HV:=Qh hv
        clear hm hz hv;by_cases hb:56320≤m∧m≤57343
        ·have HF:=Qh (show escFV (escF (117::r))= .tuple #[.string (sb (bytesF (65536+(n - 55296)*1024+(m - 56320)))), .int .i64 ((11:Nat):Int)]from by rw [HO6.out,if_pos hb,qs9])
         have HBy:=Qh (fun W=> qj6 W (65536+(n - 55296)*1024+(m - 56320)) (qal.2 (by omega)))
         have hex:((65536+(n - 55296)*1024+(m - 56320):Nat):Int)=65536+(z - 55296)*1024+v - 56320:=by have:=HZ.out;have:=HV.out;omega
         rw [hex]at HBy
         have hb1:56320≤v:=by have:=HV.out;omega
         have hb2:v≤57343:=by have:=HV.out;omega
         clear hb hex hm2 hr hq hn;generalize sb (bytesF (65536+(n - 55296)*1024+(m - 56320)))=X at*;go_wp2_with fail;refine (HBy.out _).mono ?_
         rintro e w3 ⟨rfl,B3⟩;have HB3:=Qh (HB.out.trans (B3.mono HB.out.size))
         clear B3;go_wp2_with fail;go_ret2;exact ⟨by rw [HF.out];rfl,HB3.out⟩
        ·have HF:=Qh (show escFV (escF (117::r))= .tuple #[.string ⟨#[]⟩, .int .i64 0]from by rw [HO6.out,if_neg hb];rfl)
         have hb1:v < 56320∨57343 < v:=by have:=HV.out;omega
         clear hb hm2 hr hq hn;rcases hb1 with hb1 | hb1
         ·go_wp2_with fail
          go_ret2;exact ⟨by rw [HF.out];rfl,HB.out⟩
         ·have hb2:¬v < 56320:=by omega
          go_wp2_with fail;go_ret2;exact ⟨by rw [HF.out];rfl,HB.out⟩
      ·have HF:=Qh (show escFV (escF (117::r))= .tuple #[.string ⟨#[]⟩, .int .i64 0]from by rw [HO4.out,q23 hxy];rfl)
       have hxy2:¬n8 x=92∨(n8 x=92∧¬n8 y=117):=by
        by_cases hx:n8 x=92
        ·right
         exact ⟨hx,fun hy=> hxy ⟨n8_is (c:=92) hx,n8_is (c:=117) hy⟩⟩
        ·exact .inl hx
       clear hxy hr hq hn;generalize sb (117::r)=S at*;generalize n8 x=c5 at*;generalize n8 y=c6 at*;rcases hxy2 with hx | ⟨rfl,hy⟩
       ·go_wp2_with fail
        go_ret2;exact ⟨by rw [HF.out];rfl,HB.out⟩
       ·have hy2:(c6 !=117)=true:=bne_iff_ne.2 hy
        go_wp2_with fail;all_goals go_ret2
        all_goals exact ⟨by rw [HF.out];rfl,HB.out⟩
    ·have HF:=Qh (show escFV (escF (a::r))= .tuple #[.string ⟨#[]⟩, .int .i64 0]from by rw [HO.out,if_neg ha];rfl)
     have hd:¬n8 a=117:=fun e=> ha (n8_is (c:=117) e)
     clear ha;generalize hexZ r=hz at*;generalize sb (a::r)=S at*;generalize n8 a=d at*;go_wp2_with fail;go_ret2;exact ⟨by rw [HF.out];rfl,HB.out⟩
   | succ g=>
    have hj:j < 8:=by omega
    have hsx:=HSX.out j hj
    have ej:rsigns[j]'hj=rsigns.getD j 0:=by rw [List.getD_eq_getElem?_getD,List.getElem?_eq_getElem hj];rfl
    rw [ej]at hsx
    have hj2:(j:Int) < 8:=by omega
    clear hcut hcut7 HHX HHY HI5 HI6 HSX ej;by_cases he:a=rsigns.getD j 0
    ·obtain ⟨hs,hsc,hs128⟩:=qy4 (r:=r) hj he
     have HF:=Qh (show escFV (escF (a::r))= .tuple #[.string (sb (bytesF (rmeans.getD j 0))), .int .i64 1]from by rw [hs];rfl)
     have HBy:=Qh (fun W=> qj6 W (rmeans.getD j 0) hsc)
     rw [←he]at hsx
     have HCE:=Qh (fun (W:World) (R:Row W (w.heap.size+1) 206 [.int .i64 8, .int .i64 9, .int .i64 10, .int .i64 12, .int .i64 13, .int .i64 34, .int .i64 47, .int .i64 92])=> R.cell (HRM.out j hj))
     clear he hs hsc hs128 HRM;generalize sb (bytesF (rmeans.getD j 0))=X at*;generalize ((rmeans.getD j 0:Nat):Int)=y at*;generalize sb (a::r)=S at*;generalize n8 a=d at*;go_upto_region 8 with fail;go_quiet (fail)
     have HB2:=Qh (qaa HB.out nq)
     have hcell:=HCE.out _ (HRR.out.drewN nq)
     clear HRR HB HCE;generalize wr.drewN nq=w2 at*;go_wp2_with fail;refine (HBy.out _).mono ?_
     rintro e w3 ⟨rfl,B3⟩;have HB3:=Qh (HB2.out.trans (B3.mono HB2.out.size))
     clear B3;go_wp2_with fail;go_ret2;exact ⟨by rw [HF.out];rfl,HB3.out⟩
    ·have hne:¬n8 a=n8 (rsigns.getD j 0):=fun e=> he (n8_is e)
     have HJ2:=Qh (show ∀i,i < j+1→a≠rsigns.getD i 0 from fun i hi=> by
      rcases Nat.lt_or_eq_of_le (Nat.le_of_lt_succ hi)with h | rfl
      ·exact HJ.out i h
      ·exact he)
     clear he HRM;generalize n8 (rsigns.getD j 0)=y at*;generalize sb (a::r)=S at*;generalize n8 a=d at*;go_upto_region 8 with fail;go_quiet (fail)
     have HB2:=Qh (qaa HB.out nq)
     have HR2:=Qh (HRR.out.drewN nq)
     clear HRR HB;generalize wr.drewN nq=w2 at*;go_wp2_with fail;go_roundg g
     case measure=> omega
     case rel=> exact ⟨j+1,by omega,by go_num,HJ2,HR2,HB2⟩
end Go.Proofs.YtgmangikcfakgaaGreatDoor
namespace Go.Proofs.YtgmangikcfakgaaGreatDoor
open Go.RowKit Sh
namespace Jt
def unqV:Option (List UInt8×Nat)→Value
 | some p=> .tuple #[.string (sb p.1), .int .i64 (p.2:Int), .bool true]
 | none=> .tuple #[.string ⟨#[]⟩, .int .i64 0, .bool false]
structure USt (w:World) (b k:Nat) (l acc:List UInt8) (pos nx p:Nat) (wr:World):Prop where
 mid:Mid w b k l acc pos wr
 skip:pos≤p
 low:∀j,pos≤j→j < p→(l.getD j 0).toNat < 128
 nx:(pos < nx∧p=nx)∨(nx≤pos∧p=pos)
 unq:unqF l=(unqB (l.drop p)).map fun q=> (acc++q.1,p+q.2)
 le:p≤l.length
 len:acc.length≤4*p
theorem qqs {l:List UInt8}:[239,191,189].isPrefixOf l=true↔l.take 3=[239,191,189]:=by
 rw [List.isPrefixOf_iff_prefix,List.prefix_iff_eq_take]
 exact eq_comm
theorem q2j {l:List UInt8} {i:Nat} (h:i < l.length) (hl:(l.getD i 0).toNat < 128):(orBad (charF (l[i]::l.drop (i+1)))).2=1:=by
 have e:l.getD i 0=l[i]:=by rw [List.getD_eq_getElem?_getD,List.getElem?_eq_getElem h];rfl
 rw [e]at hl
 rw [charF,if_pos hl]
 rfl
section
variable {w wr w':World} {b k pos nx p n j:Nat} {l acc:List UInt8}
theorem USt.over (h:USt w b k l acc pos nx p wr) (he:¬pos < l.length):unqF l=none:=by
 have h1:=h.skip
 have h2:=h.le
 rw [h.unq,List.drop_eq_nil_of_le (by omega),qix]
 rfl
theorem USt.pass (h:USt w b k l acc pos nx p wr) (hx:pos < nx) (m:Mid w b k l acc (pos+1) w'):USt w b k l acc (pos+1) nx p w':=by
 have h1:=h.nx
 have h2:p=nx:=by omega
 exact ⟨m,by omega,fun i h3 h4=> h.low i (by omega) h4,by omega,h.unq,h.le,h.len⟩
theorem USt.here (h:USt w b k l acc pos nx p wr) (hx:¬pos < nx):p=pos:=by
 have:=h.nx
 omega
theorem USt.char (h:USt w b k l acc pos nx pos wr) {a:UInt8} {r:List UInt8} (hd:l.drop pos=a::r) (h34:a≠34) (h92:a≠92) (hb:¬((charF (a::r)).2=0∨(charF (a::r)).1 < 32)) (hnx:nx≤pos)
  (m:Mid w b k l (acc++bytesF (charF (a::r)).1) (pos+(charF (a::r)).2) w'):USt w b k l (acc++bytesF (charF (a::r)).1) (pos+(charF (a::r)).2) nx (pos+(charF (a::r)).2) w':=by
 have T:=qiz hd
 have hz:(charF (a::r)).2≠0:=fun e=> hb (.inl e)
 rw [qeq hz]at T
 have h1:=h.len
 have h2:=qb9 (charF (a::r)).1
 have h3:=T.pos
 refine ⟨m,Nat.le_refl _,fun i h3 h4=> by omega,by omega, ?_,T.le,by rw [List.length_append];omega⟩
 rw [h.unq,qmu hd h34 h92 hb,Option.map_map]
 congr 1
 funext q
 simp only [Function.comp,List.append_assoc,Nat.add_assoc]
theorem USt.esc (h:USt w b k l acc pos nx pos wr) {r:List UInt8} (hd:l.drop pos=92::r) {c e:Nat} (he:escN (92::r)=some (c,e)) (m:Mid w b k l (acc++bytesF c) (pos+1) w'):
  USt w b k l (acc++bytesF c) (pos+1) (pos+e) (pos+e) w':=by
 have T:=qhf he
 have h1:=h.len
 have h2:=qb9 c
 have h3:=T.two
 have h4:=T.le
 have hl:=congrArg List.length hd
 rw [List.length_drop]at hl
 have h5:pos < l.length:=by rw [List.length_cons]at hl;omega
 refine ⟨m,by omega,fun i h6 h7=> ?_,by omega, ?_,by omega,by rw [List.length_append];omega⟩
 ·have h8:=T.low (i - pos) (by omega)
  rw [←hd,qnk,show pos+(i - pos)=i by omega]at h8
  exact h8
 ·rw [h.unq,qtk hd he,Option.map_map]
  congr 1
  funext q
  simp only [Function.comp,List.append_assoc,Nat.add_assoc]
end
end Jt
open Jt
theorem qs5 (w:World) (l:List UInt8) (hl:l.length≤1000000000) (hE:ErrOk w):Calls Tryz.prog 166 #[.string (sb l)] w fun e w'=> e= .returned (unqV (unqF l))∧Below w.heap.size w w':=by
 match l with
 | []=>
  have h1:(sb []).toList=[]:=qab _
  show Calls _ _ _ _ fun e w'=> e= .returned (unqV none)∧_
  unfold unqV;go_enter Tryz.func166,Tryz.ntmps166
  go_wp2_with fail;go_ret3
  exact ⟨rfl,Below.refl _ _⟩
 | a::r=>
  have h1:¬(sb (a::r)).toList=[]:=by rw [qab];exact List.cons_ne_nil _ _
  have h2:(sb (a::r)).toList.isEmpty=false:=by rw [qab];rfl
  have hix:∀W,(Instr.index 9 (.string (sb (a::r))) (.int .i64 0)).run Tryz.prog W= .ok (.int .u8 (n8 a)) W:=fun W=> qam (a::r) 0 (by simp) W
  by_cases ha:a=34
  ·subst ha
   have hix:∀W,(Instr.index 9 (.string (sb (34::r))) (.int .i64 0)).run Tryz.prog W= .ok (.int .u8 34) W:=hix
   have hu:unqF (34::r)=(unqB ((34::r).drop 1)).map fun p=> ([]++p.1,1+p.2):=by rw [unqF,if_pos rfl];rfl
   have hl0:0 < (34::r).length:=by simp
   have h34:((34::r).getD 0 0).toNat < 128:=(by decide:(34:UInt8).toNat < 128)
   generalize 34::r=l at*;have HU:=Qh hu
   have HLO:=Qh h34
   clear hu h34;have HD:=Qh (fun (i:Nat) (h:i < l.length)=> qho l h)
   have HT:=Qh (fun (i:Nat) (h:i < l.length)=> qiz (at_of l h))
   have hsz:=qag l
   have HE:=Qh hE
   clear hE;have HIT:=Qh (World.iter_heap (w.alloc (.cells #[.pointer none, .slice none 0 0] 78)) (sb l) 0)
   go_enter Tryz.func166,Tryz.ntmps166
   go_wp2_with fail;go_loopg [6] l.length (fun g vn wx=> ∃(pos nx p:Nat) (acc:List UInt8),pos+g=l.length∧vn= .int .i64 (nx:Int)∧nx≤2000000000∧Hid (USt w w.heap.size (w.heap.size+1) l acc pos nx p wx))
   case atStart=>
    refine ⟨0,1,1,[],by omega,rfl,by omega,Qh ⟨⟨(Bld.fresh w).alloc _, ?_,by omega,((Below.refl _ w).alloc (Nat.le_refl _) _).alloc (by simp) _⟩,by omega,fun j _ hj=> ?_,by omega,HU.out,by omega,by simp⟩⟩
    ·have:=HIT.out
     simpa using this
    ·obtain rfl:j=0:=by omega
     exact HLO.out
   case round=>
    obtain ⟨pos,nx,p,acc,hpg,rfl,hnx,HS⟩:=hrel
    have hit:=HS.out.mid.it
    cases gk with
    | zero=>
     obtain rfl:pos=l.length:=by omega
     have hnx:=fun ty=> Lib.run_next_end_at (P:=Tryz.prog) wr (w.heap.size+1) (sb l) l.length ty hit (by rw [hsz];omega)
     have HN:=Qh (HS.out.over (Nat.lt_irrefl _))
     have HL:=Qh HS.out.mid.low
     clear hit HS HD HT hsz HIT;generalize sb l=S at*;go_wp2_with fail;go_ret3
     exact ⟨by rw [HN.out];rfl,HL.out⟩
    | succ g=>
     have hlt:pos < l.length:=by omega
     have hd:=HD.out pos hlt
     have T:=HT.out pos hlt
     have hnx1:=fun ty=> Lib.run_next_any_at (P:=Tryz.prog) wr (w.heap.size+1) (sb l) pos ty hit (by rw [hsz];exact hlt)
     rw [hd]at hnx1
     by_cases hsk:pos < nx
     ·have hj:=q2j hlt (HS.out.low pos (Nat.le_refl _) (by have:=HS.out.nx;omega))
      rw [hj]at hnx1
      generalize (orBad (charF (l[pos]::l.drop (pos+1)))).1=n at*;have HN:=Qh (HS.out.pass hsk (HS.out.mid.next (pos+1)))
      have hi:(pos:Int) < (nx:Int):=by omega
      clear hd T HD HT hit HS;generalize wr.iterAt (w.heap.size+1) (sb l) (pos+1)=w2 at*;go_wp2_with fail;go_roundg g
      case measure=> omega
      case rel=> exact ⟨pos+1,nx,p,acc,by omega,rfl,hnx,HN⟩
     ·obtain rfl:=HS.out.here hsk
      have hi:¬(p:Int) < (nx:Int):=by omega
      have hat:=at_of l hlt
      obtain ⟨c,hc⟩:∃c,l[p]=c:=⟨_,rfl⟩
      obtain ⟨t,ht⟩:∃t,l.drop (p+1)=t:=⟨_,rfl⟩
      rw [hc,ht]at hat T hnx1 hd
      have HM2:=Qh (HS.out.mid.next (p+(orBad (charF (c::t))).2))
      have HLN:=Qh (show acc.length≤10000000000 by have:=HS.out.len;omega)
      have hnp:nx≤p:=by omega
      clear hd HD HT hit hsk HIT HLO HU hix h1 h2 hl0 hc ht;by_cases c34:c=34
      ·subst c34
       have e1:orBad (charF (34::t))=(34,1):=rfl
       rw [e1]at hnx1 HM2
       have HN:=Qh (show unqF l=some (acc,p+1)from by
        rw [HS.out.unq,qle hat];show some (acc++[],p+1)=_
        rw [List.append_nil])
       have hp1:(p:Int)≤1000000000:=by omega
       clear T HS hat;dsimp only at hnx1 HM2
       change ∀ty,_=Result.ok (Value.tuple #[.bool true, .int .i64 (p:Int), .int .i32 34]) _ at hnx1
       generalize wr.iterAt (w.heap.size+1) (sb l) (p+1)=w2 at*;generalize sb l=S at*;go_wp2_with fail;refine (qmd HM2.out.bld HM2.out.lt).mono ?_
       rintro e w3 ⟨rfl,B3⟩;have HB3:=Qh (HM2.out.low.trans B3)
       clear B3;go_wp2_with fail;go_ret3
       exact ⟨by rw [HN.out];rfl,HB3.out⟩
      by_cases c92:c=92
      ·subst c92
       have e1:orBad (charF (92::t))=(92,1):=rfl
       rw [e1]at hnx1 HM2
       have hcut:=qcj l p l.length
       rw [List.take_length,hat]at hcut
       have HX:=Qh (fun W (hW:ErrOk W)=> qvn W (92::t) (by
        have:=congrArg List.length hat
        rw [List.length_drop]at this
        omega) hW)
       have hp1:(p:Int)≤1000000000:=by omega
       have hpl:(p:Int)≤(l.length:Int):=by omega
       clear T;dsimp only at hnx1 HM2
       change ∀ty,_=Result.ok (Value.tuple #[.bool true, .int .i64 (p:Int), .int .i32 92]) _ at hnx1
       have HE2:=Qh (HE.out.below HM2.out.low)
       cases he:escN (92::t)with
       | none=>
        rw [he]at HX
        have HN:=Qh (show unqF l=none from by
         rw [HS.out.unq,qq2 hat he];rfl)
        unfold escV at HX;dsimp only at HX
        clear HS hat he;generalize wr.iterAt (w.heap.size+1) (sb l) (p+1)=w2 at*;generalize sb (92::t)=Z at*;generalize sb l=S at*;generalize l.length=ln at*;go_wp2_with fail;refine (HX.out _ HE2.out).mono ?_
        rintro e w3 ⟨rfl,B3⟩;have HM3:=Qh (HM2.out.low.trans (B3.mono HM2.out.lt))
        clear B3;go_wp2_with fail;go_ret3
        exact ⟨by rw [HN.out];rfl,HM3.out⟩
       | some ck=>
        obtain ⟨cc,kk⟩:=ck
        rw [he]at HX
        have hT:=qhf he
        have hk2:=hT.two
        have hkl:=hT.le
        have HOK:=Qh hT.ok
        have HN:=Qh (fun (w':World) (m:Mid w w.heap.size (w.heap.size+1) l (acc++bytesF cc) (p+1) w')=> HS.out.esc hat he m)
        have hlt2:=congrArg List.length hat
        rw [List.length_drop]at hlt2
        have hkk:¬(kk:Int)=0:=by omega
        have hkb:(kk:Int)≤1000000000:=by omega
        have hkn:kk≤1000000000:=by omega
        have hk0:0≤(kk:Int):=by omega
        unfold escV at HX;dsimp only at HX
        clear HS hat he hT hk2 hkl hlt2;have HMN:=Qh (fun (w3:World) (hb:Below (wr.iterAt (w.heap.size+1) (sb l) (p+1)).heap.size (wr.iterAt (w.heap.size+1) (sb l) (p+1)) w3)=> HM2.out.still hb)
        generalize hw2:wr.iterAt (w.heap.size+1) (sb l) (p+1)=w2 at*;clear hw2;generalize sb (92::t)=Z at*;go_wp2_with fail;refine (HX.out _ HE2.out).mono ?_
        rintro e w3 ⟨rfl,B3⟩;have HM3:=Qh (HMN.out _ B3)
        clear B3 HX HMN;go_wp2_with fail;refine (qfn HM3.out.bld (by have:=HLN.out;omega) HM3.out.lt HOK.out).mono ?_
        rintro e w4 ⟨⟨v,rfl⟩,W4⟩;have HS4:=Qh (HN.out w4 (HM3.out.wrote W4))
        clear W4;go_wp2_with fail;go_roundg g
        case measure=> omega
        case rel=> exact ⟨p+1,p+kk,p+kk,_,by omega,by go_num,by omega,HS4⟩
      ·have hn34:¬(orBad (charF (c::t))).1=34:=fun e=> c34 ((qfr (c:=34) (by decide)).1 e)
       have hn92:¬(orBad (charF (c::t))).1=92:=fun e=> c92 ((qfr (c:=92) (by decide)).1 e)
       have hsc:=T.ok
       have hj1:=T.pos
       have hjl:=T.le
       have hcut:=qcj l p l.length
       rw [List.take_length,hat]at hcut
       have HP:=Qh (fun W=> qo2 (c::t) [239,191,189] W)
       have hpl:(p:Int)≤(l.length:Int):=by omega
       by_cases hz:(charF (c::t)).2=0∨(charF (c::t)).1 < 32
       ·have HN:=Qh (show unqF l=none from by
         rw [HS.out.unq,qkj hat c34 c92 hz];rfl)
        by_cases h0:(charF (c::t)).2=0
        ·have e1:orBad (charF (c::t))=(65533,1):=by rw [orBad,if_pos h0]
         have hb:=(qwj c t (by rw [e1])).1 h0
         have hpf:[239,191,189].isPrefixOf (c::t)=false:=by
          cases hq:[239,191,189].isPrefixOf (c::t)with
          | false=> rfl
          | true=> exact absurd (qqs.1 hq) hb
         rw [hpf]at HP
         rw [e1]at hnx1 HM2
         dsimp only at hnx1 HM2
         change ∀ty,_=Result.ok (Value.tuple #[.bool true, .int .i64 (p:Int), .int .i32 65533]) _ at hnx1
         clear T HS hat hz h0 hb hpf e1 hn34 hn92 hsc hj1 hjl c34 c92;generalize wr.iterAt (w.heap.size+1) (sb l) (p+1)=w2 at*;generalize sb (c::t)=Z at*;generalize sb l=S at*;generalize l.length=ln at*;go_wp2_with fail;refine (HP.out _).mono ?_
         rintro e w3 ⟨rfl,rfl⟩;go_wp2_with fail;go_ret3
         exact ⟨by rw [HN.out];rfl,HM2.out.low⟩
        ·have e1:=qeq h0
         have hlow:=hz.resolve_left h0
         rw [e1]at hnx1 HM2 hn34 hn92
         have hni:((charF (c::t)).1:Int) < 32:=by omega
         clear T HS hat hz h0 e1 hsc hj1 hjl c34 c92;generalize (charF (c::t)).1=n at*;generalize (charF (c::t)).2=j at*;have hi34:¬(n:Int)=34:=by omega
         have hi92:¬(n:Int)=92:=by omega
         clear hn34 hn92 hlow HP;generalize (n:Int)=z at*;generalize wr.iterAt (w.heap.size+1) (sb l) (p+j)=w2 at*;generalize sb (c::t)=Z at*;generalize sb l=S at*;generalize l.length=ln at*;go_wp2_with fail;go_ret3
         exact ⟨by rw [HN.out];rfl,HM2.out.low⟩
       ·have h0:(charF (c::t)).2≠0:=fun e=> hz (.inl e)
        have h32:¬(charF (c::t)).1 < 32:=fun e=> hz (.inr e)
        have e1:=qeq h0
        have hbo:=qwj c t
        rw [e1]at hnx1 HM2 hn34 hn92 hsc hj1 hjl hbo
        have HN:=Qh (fun (w':World) m=> HS.out.char (w':=w') hat c34 c92 hz hnp m)
        clear T HS hat hz e1 c34 c92;have hpf:(charF (c::t)).1=65533→[239,191,189].isPrefixOf (c::t)=true:=fun e=> qqs.2 (Decidable.byContradiction fun hq=> h0 ((hbo e).2 hq))
        clear hbo h0;generalize (charF (c::t)).1=n at*;generalize (charF (c::t)).2=j at*;have HOK:=Qh hsc
        obtain ⟨z,hz0⟩:∃z:Int,z=(n:Int):=⟨_,rfl⟩
        rw [←hz0]at hnx1
        have hi32:¬z < 32:=by omega
        have hi34:¬z=34:=by omega
        have hi92:¬z=92:=by omega
        have HZ:=Qh hz0
        generalize wr.iterAt (w.heap.size+1) (sb l) (p+j)=w2 at*;have HBR:=Qh (qfn HM2.out.bld (by have:=HLN.out;omega) HM2.out.lt HOK.out)
        rw [←hz0]at HBR
        by_cases hbad:z=65533
        ·have hb2:=hpf (by omega)
         rw [hb2]at HP
         subst hbad;clear hz0 HZ hb2 hpf hn34 hn92 hsc h32;generalize sb (c::t)=Z at*;go_wp2_with fail;refine (HP.out _).mono ?_
         rintro e w3 ⟨rfl,rfl⟩;go_wp2_with fail;refine HBR.out.mono ?_
         rintro e w4 ⟨⟨v,rfl⟩,W4⟩;have HS4:=Qh (HN.out w4 (HM2.out.wrote W4))
         clear W4;go_wp2_with fail;go_roundg (g+1 - j)
         case measure=> omega
         case rel=> exact ⟨p+j,nx,p+j,_,by omega,rfl,hnx,HS4⟩
        ·clear hz0 HZ hpf hn34 hn92 hsc h32 HP
         go_wp2_with fail;refine HBR.out.mono ?_
         rintro e w4 ⟨⟨v,rfl⟩,W4⟩;have HS4:=Qh (HN.out w4 (HM2.out.wrote W4))
         clear W4;go_wp2_with fail;go_roundg (g+1 - j)
         case measure=> omega
         case rel=> exact ⟨p+j,nx,p+j,_,by omega,rfl,hnx,HS4⟩
  ·have hn:¬n8 a=34:=fun e=> ha (n8_is (c:=34) e)
   have hu:unqF (a::r)=none:=by rw [unqF,if_neg ha]
   rw [hu];unfold unqV;generalize sb (a::r)=S at*;generalize n8 a=d at*;clear hu ha;go_enter Tryz.func166,Tryz.ntmps166
   go_wp2_with fail;go_ret3
   exact ⟨rfl,Below.refl _ _⟩
end Go.Proofs.YtgmangikcfakgaaGreatDoor
namespace Go.Proofs.YtgmangikcfakgaaGreatDoor
open Go.RowKit Sh
namespace Jt
theorem q11 {r x:List UInt8} {k:Nat} (h:escF r=some (x,k)):1≤k∧k≤r.length∧x.length≤4:=by
 have e:=qpd r
 rw [h]at e
 cases hn:escN (92::r)with
 | none=> rw [hn]at e;cases e
 | some p=>
  obtain ⟨c,m⟩:=p
  rw [hn]at e
  have ht:=qhf hn
  have e2:some (x,k)=some (bytesF c,m - 1):=e
  simp only [Option.some.injEq,Prod.mk.injEq]at e2
  obtain ⟨rfl,rfl⟩:=e2
  have h2:=ht.two
  have h3:=ht.le
  rw [List.length_cons]at h3
  exact ⟨by omega,by omega,qb9 c⟩
theorem qt5 {l:List UInt8} {i:Nat} {r x:List UInt8} {k:Nat} (h:l.drop i=92::r) (he:escF r=some (x,k)):unqB (l.drop i)=(unqB (l.drop (i+1+k))).map fun p=> (x++p.1,1+k+p.2):=by
 rw [h,qb8 he,show i+1+k=i+(1+k)by omega,←List.drop_drop,h,Nat.add_comm 1 k,List.drop_succ_cons]
theorem qt6 {l:List UInt8} {i:Nat} {r:List UInt8} (h:l.drop i=92::r) (he:escF r=none):unqB (l.drop i)=none:=by
 rw [h,unqB,if_neg (by decide),if_pos rfl,he]
 rfl
end Jt
open Jt
theorem qrn (w:World) (l:List UInt8) (hl:l.length≤1000000000):Calls Tryz.prog 139 #[.string (sb l)] w fun e w'=> e= .returned (unqV (unqF l))∧Below w.heap.size w w':=by
 match l with
 | []=>
  have h1:(sb []).toList=[]:=qab _
  show Calls _ _ _ _ fun e w'=> e= .returned (unqV none)∧_
  unfold unqV;go_enter Tryz.func139,Tryz.ntmps139
  go_wp2_with fail;go_ret3
  exact ⟨rfl,Below.refl _ _⟩
 | a::r=>
  have h1:¬(sb (a::r)).toList=[]:=by rw [qab];exact List.cons_ne_nil _ _
  have h2:(sb (a::r)).toList.isEmpty=false:=by rw [qab];rfl
  have hix:∀W,(Instr.index 9 (.string (sb (a::r))) (.int .i64 0)).run Tryz.prog W= .ok (.int .u8 (n8 a)) W:=fun W=> qam (a::r) 0 (by simp) W
  by_cases ha:a=34
  ·subst ha
   have hix:∀W,(Instr.index 9 (.string (sb (34::r))) (.int .i64 0)).run Tryz.prog W= .ok (.int .u8 34) W:=hix
   have hu:unqF (34::r)=(unqB ((34::r).drop 1)).map fun p=> ([]++p.1,1+p.2):=by rw [unqF,if_pos rfl];rfl
   have hl0:1≤(34::r).length:=by simp
   generalize 34::r=l at*;have HU:=Qh hu
   clear hu;have HX:=Qh (fun (i:Nat) (h:i < l.length) W=> qam l i h W)
   have hsz:=qag l
   go_enter Tryz.func139,Tryz.ntmps139
   go_wp2_with fail;go_loopg [5,6] l.length (fun g vo vk wx=> ∃(k:Nat) (acc:List UInt8),k+g=l.length+1∧k≤l.length∧vo= .string (sb acc)∧vk= .int .i64 (k:Int)∧acc.length≤4*k∧Hid (unqF l=(unqB (l.drop k)).map fun q=> (acc++q.1,k+q.2))∧Hid (Below w.heap.size w wx))
   case atStart=> exact ⟨1,[],by omega,hl0,rfl,rfl,by simp,HU,Qh (Below.refl _ _)⟩
   case round=>
    obtain ⟨k,acc,hkg,hkl,rfl,rfl,hal,HS,HB⟩:=hrel
    by_cases hlt:k < l.length
    ·have hix1:=HX.out k hlt
     have hat:=at_of l hlt
     obtain ⟨c,hc⟩:∃c,l[k]=c:=⟨_,rfl⟩
     obtain ⟨t,ht⟩:∃t,l.drop (k+1)=t:=⟨_,rfl⟩
     rw [hc]at hix1
     rw [hc,ht]at hat
     have hki:(k:Int) < (l.length:Int):=by omega
     have hkb:(k:Int)≤1000000000:=by omega
     have HTL:=Qh (show t.length=l.length - (k+1)from by rw [←ht,List.length_drop])
     have hcutT:=sb_from' l (k+1) l.length rfl
     rw [ht]at hcutT
     have hcut:=sb_from' l k l.length rfl
     rw [hat]at hcut
     clear HX HU hl0 hix h1 h2 hc ht;by_cases c34:c=34
     ·subst c34
      have hix1:∀W,(Instr.index 9 (.string (sb l)) (.int .i64 (k:Int))).run Tryz.prog W= .ok (.int .u8 34) W:=hix1
      have HN:=Qh (show unqV (unqF l)= .tuple #[.string (sb acc), .int .i64 ((k+1:Nat):Int), .bool true]from by
       rw [HS.out,qle hat];show unqV (some (acc++[],k+1))=_
       rw [List.append_nil];rfl)
      clear hcut hcutT hat HS hkl hlt;generalize sb l=S at*;go_wp2_with fail;go_ret3
      exact ⟨by rw [HN.out];rfl,HB.out⟩
     have hd34:¬n8 c=34:=fun e=> c34 (n8_is (c:=34) e)
     by_cases c92:c=92
     ·subst c92
      have hix1:∀W,(Instr.index 9 (.string (sb l)) (.int .i64 (k:Int))).run Tryz.prog W= .ok (.int .u8 92) W:=hix1
      have HE:=Qh (fun W=> q1i W t (by have:=HTL.out;omega))
      obtain ⟨k1,hk1⟩:∃k1,k1=k+1:=⟨_,rfl⟩
      rw [←hk1]at hcutT
      have hk1i:(k:Int)+1=(k1:Int):=by omega
      cases he:escF t with
      | none=>
       have HN:=Qh (show unqV (unqF l)= .tuple #[.string ⟨#[]⟩, .int .i64 0, .bool false]from by
        rw [HS.out,qt6 hat he];rfl)
       rw [he]at HE
       unfold escFV at HE;dsimp only at HE
       clear hcut hat HS hkl hlt he hk1 hd34;generalize sb t=T at*;generalize sb l=S at*;generalize l.length=ln at*;go_wp2_with fail;refine (HE.out _).mono ?_
       rintro e w3 ⟨rfl,B3⟩;have HB3:=Qh (HB.out.trans (B3.mono HB.out.size))
       clear B3;go_wp2_with fail;go_ret3
       exact ⟨by rw [HN.out];rfl,HB3.out⟩
      | some p=>
       obtain ⟨x,kk⟩:=p
       obtain ⟨q1,q2,q3⟩:=q11 he
       have HN:=Qh (show unqF l=(unqB (l.drop (k+1+kk))).map fun q=> ((acc++x)++q.1,k+1+kk+q.2)from by
        rw [HS.out,qt5 hat he,Option.map_map];congr 1
        funext q
        simp only [Function.comp,List.append_assoc,Nat.add_assoc])
       rw [he]at HE
       unfold escFV at HE;dsimp only at HE
       have happ:=qom acc x
       have hns:¬9223372036854775807 < (sb acc).size+(sb x).size:=qoj (by omega)
       have HLA:=Qh (show (acc++x).length≤4*(k+1+kk)from by rw [List.length_append];omega)
       have HKK:=Qh (show k+1+kk≤l.length from by have:=HTL.out;omega)
       have hkk0:¬(kk:Int)=0:=by omega
       have hkk1:(kk:Int)≤1000000000:=by have:=HTL.out;omega
       have hkk2:0≤(kk:Int):=by omega
       have HK1:=Qh hk1
       have HKK1:=Qh q1
       clear hcut hat HS hkl hlt he hk1 hd34 q1 q2 q3;generalize sb t=T at*;generalize sb l=S at*;generalize hA:sb acc=A at*;clear hA;generalize sb x=X at*;go_wp2_with fail;refine (HE.out _).mono ?_
       rintro e w3 ⟨rfl,B3⟩;have HB3:=Qh (HB.out.trans (B3.mono HB.out.size))
       clear B3;go_wp2_with fail;go_roundg (gk - 1 - kk)
       case measure=> have:=HKK.out;omega
       case rel=> exact ⟨k+1+kk,_,by have:=HKK.out;omega,HKK.out,rfl,(by have:=HK1.out;go_num),HLA.out,HN,HB3⟩
     ·have hd92:¬n8 c=92:=fun e=> c92 (n8_is (c:=92) e)
      have HC:=Qh (qsn wr (c::t) (List.cons_ne_nil _ _) (by rw [List.length_cons];have:=HTL.out;omega))
      by_cases hz:(charF (c::t)).2=0∨(charF (c::t)).1 < 32
      ·have HN:=Qh (show unqV (unqF l)= .tuple #[.string ⟨#[]⟩, .int .i64 0, .bool false]from by
        rw [HS.out,qkj hat c34 c92 hz];rfl)
       have hz2:((charF (c::t)).2:Int)=0∨(¬((charF (c::t)).2:Int)=0∧((charF (c::t)).1:Int) < 32):=by omega
       unfold charV at HC;clear hz hcutT hat HS hkl hlt;generalize ((charF (c::t)).1:Int)=z at*;generalize ((charF (c::t)).2:Int)=y at*;generalize sb (c::t)=T at*;generalize sb l=S at*;generalize l.length=ln at*;generalize n8 c=d at*;go_wp2_with fail;refine HC.out.mono ?_
       rintro e w3 ⟨rfl,B3⟩;have HB3:=Qh (HB.out.trans (B3.mono HB.out.size))
       clear B3;rcases hz2 with rfl | ⟨hz2,hz3⟩
       ·go_wp2_with fail
        go_ret3
        exact ⟨by rw [HN.out];rfl,HB3.out⟩
       ·go_wp2_with fail
        go_ret3
        exact ⟨by rw [HN.out];rfl,HB3.out⟩
      ·have h0:(charF (c::t)).2≠0:=fun e=> hz (.inl e)
       have h32:¬(charF (c::t)).1 < 32:=fun e=> hz (.inr e)
       obtain ⟨q1,q2⟩:=qfo h0
       have htk:=qxr h0
       have hcut2:=qcj l k (k+(charF (c::t)).2)
       rw [show (l.take (k+(charF (c::t)).2)).drop k=bytesF (charF (c::t)).1 from by
        rw [List.drop_take,Nat.add_sub_cancel_left,hat,htk]]at hcut2
       have hq:=qmu hat c34 c92 hz
       have HN:=Qh (show unqF l=(unqB (l.drop (k+(charF (c::t)).2))).map fun q=> ((acc++bytesF (charF (c::t)).1)++q.1,k+(charF (c::t)).2+q.2)from by
        rw [HS.out,hq,Option.map_map];congr 1
        funext q
        simp only [Function.comp,List.append_assoc,Nat.add_assoc])
       have hbl:=qb9 (charF (c::t)).1
       rw [List.length_cons]at q2
       unfold charV at HC;have happ:=qom acc (bytesF (charF (c::t)).1)
       have hns:¬9223372036854775807 < (sb acc).size+(sb (bytesF (charF (c::t)).1)).size:=qoj (by omega)
       clear hz hcutT hat HS c34 c92 h0 htk hq;generalize (charF (c::t)).1=n at*;generalize (charF (c::t)).2=j at*;have HKK:=Qh (show k+j≤l.length from by have:=HTL.out;omega)
       have HLA:=Qh (show (acc++bytesF n).length≤4*(k+j)from by rw [List.length_append];omega)
       have hj0:¬(j:Int)=0:=by omega
       have hj0b:((j:Int)==0)=false:=beq_eq_false_iff_ne.2 hj0
       have hn32:32≤(n:Int):=by omega
       obtain ⟨kj,hkj⟩:∃kj,kj=k+j:=⟨_,rfl⟩
       rw [←hkj]at hcut2 HKK HLA HN
       have hkji:(k:Int)+(j:Int)=(kj:Int):=by omega
       have hkj2:(k:Int)≤(kj:Int):=by omega
       have hkj3:(kj:Int)≤(l.length:Int):=by have:=HKK.out;omega
       have HJ:=Qh (show kj=k+j∧1≤j from ⟨hkj,q1⟩)
       clear hkj h32 hbl q1 q2 hlt hkl;generalize bytesF n=x at*;generalize (n:Int)=z at*;generalize sb (c::t)=T at*;generalize hA:sb acc=A at*;clear hA;generalize sb x=X at*;generalize hS:sb l=S at*;clear hS;generalize n8 c=d at*;go_wp2_with fail;refine HC.out.mono ?_
       rintro e w3 ⟨rfl,B3⟩;have HB3:=Qh (HB.out.trans (B3.mono HB.out.size))
       clear B3;go_wp2_with fail;go_roundg (gk - j)
       case measure=> have:=HKK.out;have:=HJ.out;omega
       case rel=> exact ⟨kj,_,by have:=HKK.out;have:=HJ.out;omega,HKK.out,rfl,(by first | rfl | go_num),HLA.out,HN,HB3⟩
    ·obtain rfl:k=l.length:=by omega
     have HN:=Qh (show unqV (unqF l)= .tuple #[.string ⟨#[]⟩, .int .i64 0, .bool false]from by
      rw [HS.out,List.drop_length,qix];rfl)
     have hki:¬(l.length:Int) < (l.length:Int):=by omega
     clear HS;generalize sb l=S at*;go_wp2_with fail;go_ret3
     exact ⟨by rw [HN.out];rfl,HB.out⟩
  ·have hn:¬n8 a=34:=fun e=> ha (n8_is (c:=34) e)
   have hu:unqF (a::r)=none:=by rw [unqF,if_neg ha]
   rw [hu];unfold unqV;generalize sb (a::r)=S at*;generalize n8 a=d at*;clear hu ha;go_enter Tryz.func139,Tryz.ntmps139
   go_wp2_with fail;go_ret3
   exact ⟨rfl,Below.refl _ _⟩
end Go.Proofs.YtgmangikcfakgaaGreatDoor
