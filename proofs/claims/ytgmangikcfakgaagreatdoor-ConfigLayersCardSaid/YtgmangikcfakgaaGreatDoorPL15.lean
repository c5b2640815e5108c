import Derived.Test.YtgmangikcfakgaaGreatDoorPL12
import Derived.Laws.Closers25
import Derived.Laws.Closers25b
import Derived.Lib.AtoiAllMem
import Derived.Test.YtgmangikcfakgaaGreatDoorPL14
namespace Go.Proofs.YtgmangikcfakgaaGreatDoor
open Go.RowKit Sh
namespace Jt
def hexL (acc:Nat):List UInt8→Option Nat
 | []=> some acc
 | c::r=> (hexv c).bind fun d=> hexL (acc*16+d) r
theorem hexL_four (a b c d:UInt8):hexL 0 [a,b,c,d]=hexq a b c d:=by
 unfold hexq
 rw [hexL]
 cases hexv a with
 | none=> rfl
 | some w=>
  show hexL (0*16+w) [b,c,d]=_
  rw [hexL,show 0*16+w=w by omega]
  cases hexv b with
  | none=> rfl
  | some x=>
   show hexL (w*16+x) [c,d]=_
   rw [hexL]
   cases hexv c with
   | none=> rfl
   | some y=>
    show hexL ((w*16+x)*16+y) [d]=_
    rw [hexL]
    cases hexv d with
    | none=> rfl
    | some z=> rfl
def parsedV:Option Nat→Value
 | some n=> .tuple #[.int .u64 (n:Int), .nilIface]
 | none=> .tuple #[.int .u64 0, .iface 214 (.int .i64 2)]
inductive DigIs (c:UInt8):Prop where
 | num (h0:48≤n8 c) (h1:n8 c≤57) (h:hexv c=some (c.toNat - 48))
 | let_ (x:Int) (hx:bits .or .u8 (n8 c) 32=x) (h0:97≤x) (h1:x≤102) (h95:¬n8 c=95) (hn:¬(48≤n8 c∧n8 c≤57)) (h:hexv c=some (x.toNat - 87))
 | far (x:Int) (hx:bits .or .u8 (n8 c) 32=x) (h0:103≤x) (h1:x≤122) (h95:¬n8 c=95) (hn:¬(48≤n8 c∧n8 c≤57)) (h:hexv c=none)
 | no (x:Int) (hx:bits .or .u8 (n8 c) 32=x) (h0:x < 97∨122 < x) (hn:¬(48≤n8 c∧n8 c≤57)) (h:hexv c=none)
theorem dig_is:∀c:UInt8,DigIs c:=by
 intro c
 have key:∀n:Fin 256,(48≤n.1∧n.1≤57∧hexv (UInt8.ofNat n.1)=some (n.1 - 48))∨(¬(48≤n.1∧n.1≤57)∧
   ((97≤bits .or .u8 (n.1:Int) 32∧bits .or .u8 (n.1:Int) 32≤102∧n.1≠95∧hexv (UInt8.ofNat n.1)=some ((bits .or .u8 (n.1:Int) 32).toNat - 87))∨
    (103≤bits .or .u8 (n.1:Int) 32∧bits .or .u8 (n.1:Int) 32≤122∧n.1≠95∧hexv (UInt8.ofNat n.1)=none)∨
    ((bits .or .u8 (n.1:Int) 32 < 97∨122 < bits .or .u8 (n.1:Int) 32)∧hexv (UInt8.ofNat n.1)=none))):=by
  decide+kernel
 have e:UInt8.ofNat c.toNat=c:=UInt8.ofNat_toNat
 have h:=key ⟨c.toNat,c.toNat_lt⟩
 simp only [e]at h
 have hn:n8 c=(c.toNat:Int):=rfl
 rcases h with ⟨h1,h2,h3⟩ | ⟨hn1,h⟩
 ·exact .num (by omega) (by omega) h3
 ·have hn2:¬(48≤n8 c∧n8 c≤57):=by omega
  rcases h with ⟨h1,h2,h4,h3⟩ | ⟨h1,h2,h4,h3⟩ | ⟨h1,h3⟩
  ·exact .let_ _ rfl h1 h2 (by omega) hn2 h3
  ·exact .far _ rfl h1 h2 (by omega) hn2 h3
  ·exact .no _ rfl h1 hn2 h3
end Jt
open Jt
set_option maxHeartbeats 8000000 in
set_option maxRecDepth 100000 in
theorem jt_hex (w:World) (l:List UInt8) (h4:l.length=4):Calls Tryz.prog 200 #[.string (sb l), .int .i64 16, .int .i64 16] w fun e w'=>
  e= .returned (parsedV (hexL 0 l))∧Below w.heap.size w w':=by
 have hemp:(sb l).toList.isEmpty=false:=by
  rw [sb_list]
  match l,h4 with
  | _::_,_=> rfl
 have hcv:=Lib.run_convert_string_bytes (P:=Tryz.prog) w 9 22 5 (sb l) (u:= .string) Tryz.underlying9 Tryz.underlying22 Tryz.underlying5
 have hB:∀j,j < (sb l).size→(Lib.bytesWorld w 5 (sb l)).cell? ⟨w.heap.size,j,none⟩=some (.int .u8 ((sb l).data.toList.getD j 0).toNat):=fun j hj=> Lib.bytesWorld_cell w 5 (sb l) j hj
 have hb:=Lib.hid (Lib.bytesWorld_below w 5 (sb l))
 have hsz:(sb l).size=4:=h4
 rw [sb_data]at hB
 obtain ⟨W1,hW1⟩:∃W1,W1=Lib.bytesWorld w 5 (sb l):=⟨_,rfl⟩
 rw [←hW1]at hcv hB hb
 clear hW1
 have HB:=Lib.hid hB
 clear hB
 have hmv:IntKind.u64.wrap (IntKind.u64.wrap 65536 - 1)=65535:=by
  rw [IntKind.wrap_u64,IntKind.wrap_u64]
  decide
 have HL4:=Lib.hid h4
 clear h4
 generalize sb l=S at*
 go_enter Tryz.func200,Tryz.ntmps200
 go_wp2_with fail
 go_loopg [12,13,101] 4 (fun g vu vn vi wx=> ∃(k acc:Nat) (a:Int),k+g=4∧vu= .bool false∧vn= .int .u64 a∧vi= .int .i64 (k:Int)∧wx=W1∧Hid (acc < 16 ^ k∧a=(acc:Int))∧Hid (hexL 0 l=hexL acc (l.drop k)))
 case atStart=> exact ⟨0,0,0,by omega,rfl,rfl,rfl,rfl,Lib.hid ⟨by decide,rfl⟩,Lib.hid rfl⟩
 case round=>
  obtain ⟨k,acc,a,hkg,rfl,rfl,rfl,rfl,HAC,HA⟩:=hrel
  cases gk with
  | zero=>
   obtain rfl:k=4:=by omega
   have HE:=Lib.hid (show hexL 0 l=some acc from by
    rw [HA.out,List.drop_eq_nil_of_le (by rw [HL4.out];exact Nat.le_refl _)]
    rfl)
   go_wp2_with fail
   go_ret2
   exact ⟨by rw [HE.out,HAC.out.2];rfl,hb.out⟩
  | succ g=>
   have hk:k < l.length:=by rw [HL4.out];omega
   have hc:=HB.out k (by rw [hsz];omega)
   have hdr:=at_of l hk
   rw [show l.getD k 0=l[k]from by rw [List.getD_eq_getElem?_getD,List.getElem?_eq_getElem hk];rfl]at hc
   have HS:=Lib.hid (show hexL 0 l=(hexv l[k]).bind fun d=> hexL (acc*16+d) (l.drop (k+1))from by
    rw [HA.out,hdr,hexL])
   clear hdr HA
   generalize l[k]=c at*
   change _=some (Value.int .u8 (n8 c))at hc
   have hac2:acc≤4095:=by
    have:(16:Nat) ^ k≤16 ^ 3:=Nat.pow_le_pow_right (by decide) (by omega)
    have:=HAC.out.1
    omega
   have HP:=Lib.hid (show (16:Nat) ^ (k+1)=16 ^ k*16 from Nat.pow_succ ..)
   have hk4:(k:Int) < 4:=by omega
   have ha0:0≤a:=by have:=HAC.out.2;omega
   have ha1:a≤4095:=by have:=HAC.out.2;omega
   clear hac2
   rcases dig_is c with ⟨h0,h1,h⟩ | ⟨x,hx,h0,h1,h95,hn,h⟩ | ⟨x,hx,h0,h1,h95,hn,h⟩ | ⟨x,hx,h0,hn,h⟩
   ·have HN:=Lib.hid (show hexL 0 l=hexL (acc*16+(c.toNat - 48)) (l.drop (k+1))from by rw [HS.out,h];rfl)
    have HE:=Lib.hid (show a*16+(n8 c - 48)=((acc*16+(c.toNat - 48):Nat):Int)from by
     have:=HAC.out.2
     unfold n8 at h0 ⊢
     omega)
    have HN2:=Lib.hid (show acc*16+(c.toNat - 48) < 16 ^ (k+1)from by
     have:=HAC.out.1
     unfold n8 at h1
     rw [HP.out]
     omega)
    clear h
    generalize n8 c=d at*
    go_wp2_with fail
    go_roundg g
    case measure=> omega
    case rel=> exact ⟨k+1,_,a*16+(d - 48),by omega,rfl,(by first | rfl | go_num),by go_num,rfl,Lib.hid ⟨HN2.out,HE.out⟩,HN⟩
   ·have HN:=Lib.hid (show hexL 0 l=hexL (acc*16+(x.toNat - 87)) (l.drop (k+1))from by rw [HS.out,h];rfl)
    have HE:=Lib.hid (show a*16+(x - 97+10)=((acc*16+(x.toNat - 87):Nat):Int)from by
     have:=HAC.out.2
     omega)
    have HN2:=Lib.hid (show acc*16+(x.toNat - 87) < 16 ^ (k+1)from by
     have:=HAC.out.1
     rw [HP.out]
     omega)
    have HLo:=Lib.hid (fun W=> Tryz.internal_strconv_lower (n8 c) W)
    rw [hx]at HLo
    clear h hx
    generalize n8 c=d at*
    go_wp2_with (first | (go_at_call 202;refine (HLo.out _).mono ?_;rintro e w' ⟨rfl,rfl⟩) | fail)
    all_goals go_roundg g
    all_goals first
     | exact ⟨k+1,_,a*16+(x - 97+10),by omega,rfl,(by first | rfl | go_num),by go_num,rfl,Lib.hid ⟨HN2.out,HE.out⟩,HN⟩
     | omega
   ·have HN:=Lib.hid (show hexL 0 l=none from by rw [HS.out,h];rfl)
    have HLo:=Lib.hid (fun W=> Tryz.internal_strconv_lower (n8 c) W)
    rw [hx]at HLo
    clear h hx
    generalize n8 c=d at*
    go_wp2_with (first | (go_at_call 202;refine (HLo.out _).mono ?_;rintro e w' ⟨rfl,rfl⟩) | fail)
    all_goals go_ret2
    all_goals exact ⟨by rw [HN.out];rfl,hb.out⟩
   ·have HN:=Lib.hid (show hexL 0 l=none from by rw [HS.out,h];rfl)
    have HLo:=Lib.hid (fun W=> Tryz.internal_strconv_lower (n8 c) W)
    rw [hx]at HLo
    clear h hx
    generalize n8 c=d at*
    by_cases h95:d=95
    ·subst h95
     go_wp2_with (first | (go_at_call 202;refine (HLo.out _).mono ?_;rintro e w' ⟨rfl,rfl⟩) | fail)
     all_goals go_ret2
     all_goals exact ⟨by rw [HN.out];rfl,hb.out⟩
    ·go_wp2_with (first | (go_at_call 202;refine (HLo.out _).mono ?_;rintro e w' ⟨rfl,rfl⟩) | fail)
     all_goals go_ret2
     all_goals exact ⟨by rw [HN.out];rfl,hb.out⟩
end Go.Proofs.YtgmangikcfakgaaGreatDoor
namespace Go.Proofs.YtgmangikcfakgaaGreatDoor
open Go.RowKit Sh
namespace Jt
def unitV:Option Nat→Value
 | some n=> .tuple #[.int .i32 (n:Int), .bool true]
 | none=> .tuple #[.int .i32 0, .bool false]
theorem unit_not {s:List UInt8} (h:[92,117].isPrefixOf s=false):unitN s=none:=by
 match s with
 | []=> rfl
 | [_]=> rfl
 | x::y::r=>
  rw [unitN,if_neg]
  rintro ⟨rfl,rfl⟩
  cases h
theorem unit_pre {s:List UInt8} (h:[92,117].isPrefixOf s=true):s=92::117::s.drop 2:=by
 match s with
 | []=> cases h
 | [x]=> simp [List.isPrefixOf]at h
 | x::y::r=>
  simp [List.isPrefixOf]at h
  obtain ⟨rfl,rfl⟩:=h
  rfl
theorem unit_yes {s:List UInt8} (h:[92,117].isPrefixOf s=true):unitN s=hex4 (s.drop 2):=by
 have e:=unit_pre h
 rw [e,unitN,if_pos ⟨rfl,rfl⟩]
 rfl
theorem hex4_short {s:List UInt8} (h:s.length < 4):hex4 s=none:=by
 match s with
 | []=> rfl
 | [_]=> rfl
 | [_,_]=> rfl
 | [_,_,_]=> rfl
 | _::_::_::_::_=> simp only [List.length_cons]at h;omega
theorem hex4_take {s:List UInt8} (h:4≤s.length):hex4 s=hexL 0 (s.take 4)∧(s.take 4).length=4:=by
 match s with
 | []=> simp at h
 | [_]=> simp at h
 | [_,_]=> simp at h
 | [_,_,_]=> simp at h
 | a::b::c::d::r=> exact ⟨(hexL_four a b c d).symm,rfl⟩
theorem hexL_lim {s:List UInt8} {n:Nat} (h4:s.length=4) (h:hexL 0 s=some n):n < 65536:=by
 match s,h4 with
 | [a,b,c,d],_=>
  rw [hexL_four]at h
  exact (hex4_cut (r:=[a,b,c,d]) (n:=n) h).1
def parsedP (r:Option Nat) (v:Value):Prop:=match r with
 | some n=> v= .tuple #[.int .u64 (n:Int), .nilIface]
 | none=> ∃p,v= .tuple #[.int .u64 0, .iface 216 (.pointer (some p))]
end Jt
open Jt
set_option maxHeartbeats 2000000 in
set_option maxRecDepth 100000 in
theorem jt_puint (w:World) (l:List UInt8) (h4:l.length=4) (hE:ErrOk w):Calls Tryz.prog 199 #[.string (sb l), .int .i64 16, .int .i64 16] w fun e w'=>
  (∃v,e= .returned v∧parsedP (hexL 0 l) v)∧Below w.heap.size w w':=by
 have HH:=Lib.hid (jt_hex w l h4)
 have HE:=Lib.hid hE
 clear hE
 go_enter Tryz.func199,Tryz.ntmps199
 go_wp2_with fail
 refine HH.out.mono ?_
 rintro e w1 ⟨rfl,B1⟩
 have HB1:=Lib.hid B1
 have HE1:=Lib.hid (HE.out.below B1)
 clear B1 HH
 cases hr:hexL 0 l with
 | some n=>
  unfold parsedV
  go_wp2_with fail
  go_ret2
  refine ⟨⟨_,rfl, ?_⟩,HB1.out⟩
  rw [hr]
  rfl
 | none=>
  unfold parsedV
  obtain ⟨te,pe,hv⟩:=HE1.out.syn
  have HT:=Lib.hid (Tryz.strconv_toError_syntax ⟨#[80,97,114,115,101,85,105,110,116]⟩ (sb l) 16 16 (.iface te pe) w1 (by rw [sb_size];omega) hv (.inr ⟨te,pe,rfl⟩))
  clear hv
  go_wp2_with fail
  refine HT.out.mono ?_
  rintro e w2 ⟨N,rfl, -, -,B2⟩
  have HB2:=Lib.hid B2
  clear B2
  go_wp2_with fail
  go_ret2
  refine ⟨⟨_,rfl, ?_⟩,HB1.out.trans (HB2.out.mono HB1.out.size)⟩
  rw [hr]
  exact ⟨_,rfl⟩
set_option maxHeartbeats 2000000 in
set_option maxRecDepth 100000 in
theorem jt_unit (w:World) (s:List UInt8) (hs:s.length≤1000000000) (hE:ErrOk w):Calls Tryz.prog 198 #[.string (sb s)] w fun e w'=>
  e= .returned (unitV (unitN s))∧Below w.heap.size w w':=by
 have HC:=Lib.hid (cutp_sb s [92,117] w)
 have HE:=Lib.hid hE
 clear hE
 cases hp:[92,117].isPrefixOf s with
 | false=>
  rw [hp,if_neg (by decide)]at HC
  rw [unit_not hp]
  unfold unitV
  clear hp
  generalize sb s=S at*
  go_enter Tryz.func198,Tryz.ntmps198
  go_wp2_with fail
  refine HC.out.mono ?_
  rintro e w1 ⟨rfl,rfl⟩
  go_wp2_with fail
  go_ret2
  exact ⟨rfl,Below.refl _ _⟩
 | true=>
  rw [hp,if_pos rfl]at HC
  change Hid (Calls _ _ _ _ fun e w'=> e= .returned (.tuple #[.string (sb (s.drop 2)), .bool true])∧w'=w)at HC
  rw [unit_yes hp]
  have hl:(s.drop 2).length≤1000000000:=by rw [List.length_drop];omega
  generalize s.drop 2=t at*
  clear hp hs
  have hsz:=sb_size t
  by_cases h4:t.length < 4
  ·rw [hex4_short h4]
   unfold unitV
   have h4':(t.length:Int) < 4:=by omega
   generalize sb s=S at*
   generalize sb t=T at*
   go_enter Tryz.func198,Tryz.ntmps198
   go_wp2_with fail
   refine HC.out.mono ?_
   rintro e w1 ⟨rfl,rfl⟩
   go_wp2_with fail
   go_ret2
   exact ⟨rfl,Below.refl _ _⟩
  ·obtain ⟨h5,h6⟩:=hex4_take (s:=t) (by omega)
   rw [h5]
   have HP:=Lib.hid (jt_puint w (t.take 4) h6 HE.out)
   have hcut:=sb_cut t 0 4
   rw [List.drop_zero]at hcut
   have h4':¬(t.length:Int) < 4:=by omega
   have HLM:=Lib.hid (fun n h=> hexL_lim (n:=n) h6 h)
   clear h5 h6
   generalize t.take 4=u at*
   generalize sb s=S at*
   generalize sb t=T at*
   generalize sb u=U at*
   go_enter Tryz.func198,Tryz.ntmps198
   go_wp2_with fail
   refine HC.out.mono ?_
   rintro e w1 ⟨rfl,rfl⟩
   go_wp2_with fail
   refine HP.out.mono ?_
   rintro e w2 ⟨⟨v,rfl,hv⟩,B2⟩
   have HB2:=Lib.hid B2
   clear B2 HP HC
   cases hr:hexL 0 u with
   | some n=>
    rw [hr]at hv
    have hv':v= .tuple #[.int .u64 (n:Int), .nilIface]:=hv
    subst hv'
    have hn:=HLM.out n hr
    have hn2:(n:Int) < 65536:=by omega
    have hn0:0≤(n:Int):=by omega
    clear hv hn
    go_wp2_with fail
    go_ret2
    exact ⟨by rw [hr];rfl,HB2.out⟩
   | none=>
    rw [hr]at hv
    obtain ⟨p,rfl⟩:∃p,v= .tuple #[.int .u64 0, .iface 216 (.pointer (some p))]:=hv
    go_wp2_with fail
    go_ret2
    exact ⟨by rw [hr];rfl,HB2.out⟩
namespace Jt
def escV:Option (Nat×Nat)→Value
 | some p=> .tuple #[.int .i32 (p.1:Int), .int .i64 (p.2:Int)]
 | none=> .tuple #[.int .i32 0, .int .i64 0]
theorem unit_len {s:List UInt8} {n:Nat} (h:unitN s=some n):n < 65536∧6≤s.length:=⟨(unit_cut h).1,(unit_cut h).2.1⟩
end Jt
set_option maxHeartbeats 4000000 in
set_option maxRecDepth 100000 in
theorem jt_unitEscape (w:World) (s:List UInt8) (hs:s.length≤1000000000) (hE:ErrOk w):Calls Tryz.prog 197 #[.string (sb s)] w fun e w'=>
  e= .returned (escV (uniN s))∧Below w.heap.size w w':=by
 have HU:=Lib.hid (jt_unit w s hs hE)
 have HE:=Lib.hid hE
 clear hE
 unfold uniN
 have hsz:=sb_size s
 cases hu:unitN s with
 | none=>
  rw [hu]at HU
  unfold unitV at HU
  show Calls _ _ _ _ fun e w'=> e= .returned (escV none)∧_
  unfold escV
  clear hu
  generalize sb s=S at*
  go_enter Tryz.func197,Tryz.ntmps197
  go_wp2_with fail
  refine HU.out.mono ?_
  rintro e w1 ⟨rfl,B1⟩
  have HB1:=Lib.hid B1
  clear B1 HU
  go_wp2_with fail
  go_ret2
  exact ⟨rfl,HB1.out⟩
 | some n=>
  rw [hu]at HU
  unfold unitV at HU
  dsimp only at HU
  obtain ⟨hn,h6⟩:=unit_len hu
  have hn1:(n:Int) < 65536:=by omega
  have hn0:0≤(n:Int):=by omega
  show Calls _ _ _ _ fun e w'=> e= .returned (escV (if n < 55296∨57344≤n then some (n,6) else pairN n (s.drop 6)))∧_
  by_cases hc:n < 55296∨57344≤n
  ·rw [if_pos hc]
   unfold escV
   have hc':(n:Int) < 55296∨57344≤(n:Int):=by omega
   clear hu hc hn
   generalize sb s=S at*
   go_enter Tryz.func197,Tryz.ntmps197
   go_wp2_with fail
   refine HU.out.mono ?_
   rintro e w1 ⟨rfl,B1⟩
   have HB1:=Lib.hid B1
   clear B1 HU
   rcases hc' with hc' | hc'
   ·go_wp2_with fail
    go_ret2
    exact ⟨rfl,HB1.out⟩
   ·have hc2:¬(n:Int) < 55296:=by omega
    go_wp2_with fail
    go_ret2
    exact ⟨rfl,HB1.out⟩
  ·rw [if_neg hc]
   have hc1:55296≤(n:Int):=by omega
   have hc2:(n:Int) < 57344:=by omega
   have hcut:=sb_cut s 6 s.length
   rw [List.take_length]at hcut
   have HU2:=Lib.hid (fun W (hW:ErrOk W)=> jt_unit W (s.drop 6) (by rw [List.length_drop];omega) hW)
   have h6':6≤(s.length:Int):=by omega
   clear hu hc hn h6 hs
   unfold pairN
   generalize s.drop 6=t at*
   generalize sb s=S at*
   generalize s.length=ln at*
   generalize sb t=T at*
   obtain ⟨z,hz⟩:∃z:Int,z=(n:Int):=⟨_,rfl⟩
   rw [←hz]at hc1 hc2 hn1 hn0 HU
   have HZ0:=Lib.hid hz
   clear hz
   go_enter Tryz.func197,Tryz.ntmps197
   go_wp2_with fail
   refine HU.out.mono ?_
   rintro e w1 ⟨rfl,B1⟩
   have HB1:=Lib.hid B1
   have HE1:=Lib.hid (HE.out.below B1)
   clear B1 HU
   go_wp2_with fail
   refine (HU2.out _ HE1.out).mono ?_
   rintro e w2 ⟨rfl,B2⟩
   have HB2:=Lib.hid (HB1.out.trans (B2.mono HB1.out.size))
   clear B2 HU2
   cases hm:unitN t with
   | none=>
    unfold unitV
    go_wp2_with fail
    go_ret2
    exact ⟨by rw [hm];rfl,HB2.out⟩
   | some m=>
    have hml:=(unit_len hm).1
    obtain ⟨y,hy⟩:∃y:Int,y=(m:Int):=⟨_,rfl⟩
    have hm1:y < 65536:=by omega
    have hm0:0≤y:=by omega
    clear hml
    unfold unitV
    by_cases hb:56320≤n∨m < 56320∨57344≤m
    ·have HX:=Lib.hid (show ((unitN t).bind fun m=> if 56320≤n∨m < 56320∨57344≤m then none else some (65536+(n - 55296)*1024+(m - 56320),12))=none from by
      rw [hm]
      exact if_pos hb)
     have hb':56320≤z∨y < 56320∨57344≤y:=by have:=HZ0.out;omega
     dsimp only
     rw [←hy]
     clear hm hb hy
     rcases hb' with hb | hb
     ·go_wp2_with fail
      go_ret2
      exact ⟨by rw [HX.out];rfl,HB2.out⟩
     by_cases hn56:56320≤z
     ·go_wp2_with fail
      go_ret2
      exact ⟨by rw [HX.out];rfl,HB2.out⟩
     rcases hb with hb | hb
     ·go_wp2_with fail
      go_ret2
      exact ⟨by rw [HX.out];rfl,HB2.out⟩
     ·have hb2:¬y < 56320:=by omega
      go_wp2_with fail
      go_ret2
      exact ⟨by rw [HX.out];rfl,HB2.out⟩
    ·have HX:=Lib.hid (show ((unitN t).bind fun m=> if 56320≤n∨m < 56320∨57344≤m then none else some (65536+(n - 55296)*1024+(m - 56320),12))=some (65536+(n - 55296)*1024+(m - 56320),12)from by
      rw [hm]
      exact if_neg hb)
     have hb1:z < 56320:=by have:=HZ0.out;omega
     have hb2:56320≤y:=by omega
     have hb3:y < 57344:=by omega
     have HZ:=Lib.hid (show (((65536+(n - 55296)*1024+(m - 56320):Nat)):Int)=65536+(z - 55296)*1024+(y - 56320)from by have:=HZ0.out;omega)
     dsimp only
     rw [←hy]
     clear hm hb hy
     go_wp2_with fail
     go_ret2
     refine ⟨?_,HB2.out⟩
     rw [HX.out]
     show _=Ending.returned (.tuple #[.int .i32 _, .int .i64 _])
     rw [HZ.out]
     rfl
namespace Jt
theorem esc_pre {s:List UInt8} (h:[92,117].isPrefixOf s=true):escN s=uniN s:=by
 unfold escN
 rw [if_pos]
 rw [unit_pre h]
 rfl
theorem esc_not {s:List UInt8} (h:[92,117].isPrefixOf s=false):¬s.take 2=[92,117]:=by
 intro e
 match s with
 | []=> cases e
 | [_]=> cases e
 | x::y::r=>
  have e:[x,y]=[92,117]:=e
  injection e with e1 e2
  injection e2 with e2 _
  subst e1
  subst e2
  cases h
theorem esc_short {s:List UInt8} (h:[92,117].isPrefixOf s=false) (hl:s.length < 2):escN s=none:=by
 unfold escN
 rw [if_neg (esc_not h)]
 match s with
 | []=> rfl
 | [_]=> rfl
 | _::_::_=> simp only [List.length_cons]at hl;omega
theorem esc_let {s:List UInt8} (h:[92,117].isPrefixOf s=false) (hl:1 < s.length):escN s=if Lib.indexByte lets s[1] < 0 then none else some ((means.getD (Lib.indexByte lets s[1]).toNat 0).toNat,2):=by
 unfold escN
 rw [if_neg (esc_not h)]
 match s,hl with
 | x::y::r,_=> rfl
theorem idx_lt {l:List UInt8} {c:UInt8} (h:0≤Lib.indexByte l c):∃j:Nat,Lib.indexByte l c=(j:Int)∧j < l.length:=by
 induction l with
 | nil=> exact absurd (show (0:Int)≤ -1 from h) (by decide)
 | cons a r ih=>
  rw [Lib.indexByte]at h ⊢
  by_cases ha:a==c
  ·rw [if_pos ha]
   exact ⟨0,rfl,by simp⟩
  ·rw [if_neg ha]at h ⊢
   by_cases hm:(Lib.indexByte r c== -1)=true
   ·rw [if_pos hm]at h
    exact absurd h (by decide)
   ·rw [if_neg hm]at h ⊢
    have hge:=Lib.indexByte_ge r c
    have hne:Lib.indexByte r c≠ -1:=fun e=> hm (by rw [e];rfl)
    obtain ⟨j,hj,hl⟩:=ih (by omega)
    exact ⟨j+1,by rw [hj];rfl,by rw [List.length_cons];omega⟩
theorem mean_index {j:Nat} (h:j < 8) (W:World):(Instr.index 9 (.string (sb means)) (.int .i64 (j:Int))).run Tryz.prog W= .ok (.int .u8 (n8 (means.getD j 0))) W:=by
 rw [sb_index means j h W]
 congr 4
 rw [List.getD_eq_getElem?_getD,List.getElem?_eq_getElem h]
 rfl
end Jt
set_option maxHeartbeats 4000000 in
set_option maxRecDepth 100000 in
theorem jt_escape (w:World) (s:List UInt8) (hs:s.length≤1000000000) (hE:ErrOk w):Calls Tryz.prog 190 #[.string (sb s)] w fun e w'=>
  e= .returned (escV (escN s))∧Below w.heap.size w w':=by
 have HH:=Lib.hid (has_sb s [92,117] w)
 have hsz:=sb_size s
 cases hp:[92,117].isPrefixOf s with
 | true=>
  rw [hp]at HH
  rw [esc_pre hp]
  have HU:=Lib.hid (jt_unitEscape w s hs hE)
  clear hp hE
  go_enter Tryz.func190,Tryz.ntmps190
  go_wp2_with fail
  refine HH.out.mono ?_
  rintro e w1 ⟨rfl,rfl⟩
  go_wp2_with fail
  refine HU.out.mono ?_
  rintro e w2 ⟨rfl,B2⟩
  have HB2:=Lib.hid B2
  clear B2 HU HH
  cases hu:uniN s with
  | none=>
   unfold escV
   go_wp2_with fail
   go_ret2
   exact ⟨by rw [hu];rfl,HB2.out⟩
  | some p=>
   unfold escV
   go_wp2_with fail
   go_ret2
   exact ⟨by rw [hu];rfl,HB2.out⟩
 | false=>
  rw [hp]at HH
  by_cases h2:s.length < 2
  ·rw [esc_short hp h2]
   unfold escV
   have h2':(s.length:Int) < 2:=by omega
   clear hp hE
   generalize sb s=S at*
   go_enter Tryz.func190,Tryz.ntmps190
   go_wp2_with fail
   refine HH.out.mono ?_
   rintro e w1 ⟨rfl,rfl⟩
   go_wp2_with fail
   go_ret2
   exact ⟨rfl,Below.refl _ _⟩
  ·have hl:1 < s.length:=by omega
   have hix:=fun W=> sb_index s 1 hl W
   have HI:=Lib.hid (fun W=> idx_sb lets s[1] W)
   have hes:=esc_let hp hl
   rw [hes]
   have h2':¬(s.length:Int) < 2:=by omega
   have HK:=Lib.hid (fun (h:0≤Lib.indexByte lets s[1])=> idx_lt h)
   clear hp hE hes hs h2
   generalize s[1]=c at*
   change ∀W,(Instr.index 9 (.string (sb s)) (.int .i64 1)).run Tryz.prog W=_ at hix
   generalize sb s=S at*
   generalize s.length=ln at*
   by_cases hi:Lib.indexByte lets c < 0
   ·rw [if_pos hi]
    generalize Lib.indexByte lets c=z at*
    unfold escV
    go_enter Tryz.func190,Tryz.ntmps190
    go_wp2_with fail
    refine HH.out.mono ?_
    rintro e w1 ⟨rfl,rfl⟩
    go_wp2_with fail
    refine (HI.out _).mono ?_
    rintro e w1 ⟨rfl,rfl⟩
    go_wp2_with fail
    go_ret2
    exact ⟨rfl,Below.refl _ _⟩
   ·rw [if_neg hi]
    obtain ⟨j,hj,hj8⟩:=HK.out (by omega)
    rw [hj]at HI ⊢
    have hj8:j < 8:=hj8
    have hmx:∀W,(Instr.index 9 (.string ⟨#[34,92,8,12,10,13,9,47]⟩) (.int .i64 (j:Int))).run Tryz.prog W= .ok (.int .u8 (n8 (means.getD j 0))) W:=fun W=> mean_index hj8 W
    rw [show ((j:Int)).toNat=j from Int.toNat_natCast j]
    have hmlt:=n8_lt (means.getD j 0)
    have hmge:=n8_nonneg (means.getD j 0)
    have HV:=Lib.hid (show escV (some ((means.getD j 0).toNat,2))= .tuple #[.int .i32 (n8 (means.getD j 0)), .int .i64 2]from rfl)
    clear hi hj HK
    generalize means.getD j 0=d at*
    go_enter Tryz.func190,Tryz.ntmps190
    go_wp2_with fail
    refine HH.out.mono ?_
    rintro e w1 ⟨rfl,rfl⟩
    go_wp2_with fail
    refine (HI.out _).mono ?_
    rintro e w1 ⟨rfl,rfl⟩
    go_wp2_with fail
    go_ret2
    exact ⟨by rw [HV.out];rfl,Below.refl _ _⟩
end Go.Proofs.YtgmangikcfakgaaGreatDoor
namespace Go.Proofs.YtgmangikcfakgaaGreatDoor
open Go.RowKit Sh
namespace Jt
def hexZ (s:List UInt8):Int:=match hex4 s with
 | some n=> (n:Int)
 | none=> -1
end Jt
open Jt
end Go.Proofs.YtgmangikcfakgaaGreatDoor
namespace Go.Proofs.YtgmangikcfakgaaGreatDoor
open Go.RowKit Sh
namespace Jt
end Jt
open Jt
end Go.Proofs.YtgmangikcfakgaaGreatDoor
namespace Go.Proofs.YtgmangikcfakgaaGreatDoor
open Go.RowKit Sh
namespace Jt
def unqV:Option (List UInt8×Nat)→Value
 | some p=> .tuple #[.string (sb p.1), .int .i64 (p.2:Int), .bool true]
 | none=> .tuple #[.string ⟨#[]⟩, .int .i64 0, .bool false]
structure USt (w:World) (b k:Nat) (l acc:List UInt8) (pos nx p:Nat) (wr:World):Prop where
 mid:Mid w b k l acc pos wr
 skip:pos≤p
 low:∀j,pos≤j→j < p→(l.getD j 0).toNat < 128
 nx:(pos < nx∧p=nx)∨(nx≤pos∧p=pos)
 unq:unqF l=(unqB (l.drop p)).map fun q=> (acc++q.1,p+q.2)
 le:p≤l.length
 len:acc.length≤4*p
theorem pre_take {l:List UInt8}:[239,191,189].isPrefixOf l=true↔l.take 3=[239,191,189]:=by
 rw [List.isPrefixOf_iff_prefix,List.prefix_iff_eq_take]
 exact eq_comm
theorem low_one {l:List UInt8} {i:Nat} (h:i < l.length) (hl:(l.getD i 0).toNat < 128):(orBad (charF (l[i]::l.drop (i+1)))).2=1:=by
 have e:l.getD i 0=l[i]:=by rw [List.getD_eq_getElem?_getD,List.getElem?_eq_getElem h];rfl
 rw [e]at hl
 rw [charF,if_pos hl]
 rfl
section
variable {w wr w':World} {b k pos nx p n j:Nat} {l acc:List UInt8}
theorem USt.over (h:USt w b k l acc pos nx p wr) (he:¬pos < l.length):unqF l=none:=by
 have h1:=h.skip
 have h2:=h.le
 rw [h.unq,List.drop_eq_nil_of_le (by omega),unq_nil]
 rfl
theorem USt.pass (h:USt w b k l acc pos nx p wr) (hx:pos < nx) (m:Mid w b k l acc (pos+1) w'):USt w b k l acc (pos+1) nx p w':=by
 have h1:=h.nx
 have h2:p=nx:=by omega
 exact ⟨m,by omega,fun i h3 h4=> h.low i (by omega) h4,by omega,h.unq,h.le,h.len⟩
theorem USt.here (h:USt w b k l acc pos nx p wr) (hx:¬pos < nx):p=pos:=by
 have:=h.nx
 omega
theorem USt.char (h:USt w b k l acc pos nx pos wr) {a:UInt8} {r:List UInt8} (hd:l.drop pos=a::r) (h34:a≠34) (h92:a≠92) (hb:¬((charF (a::r)).2=0∨(charF (a::r)).1 < 32)) (hnx:nx≤pos)
  (m:Mid w b k l (acc++bytesF (charF (a::r)).1) (pos+(charF (a::r)).2) w'):USt w b k l (acc++bytesF (charF (a::r)).1) (pos+(charF (a::r)).2) nx (pos+(charF (a::r)).2) w':=by
 have T:=told_is hd
 have hz:(charF (a::r)).2≠0:=fun e=> hb (.inl e)
 rw [orBad_good hz]at T
 have h1:=h.len
 have h2:=bytes_len (charF (a::r)).1
 have h3:=T.pos
 refine ⟨m,Nat.le_refl _,fun i h3 h4=> by omega,by omega, ?_,T.le,by rw [List.length_append];omega⟩
 rw [h.unq,unq_at_ch hd h34 h92 hb,Option.map_map]
 congr 1
 funext q
 simp only [Function.comp,List.append_assoc,Nat.add_assoc]
theorem USt.esc (h:USt w b k l acc pos nx pos wr) {r:List UInt8} (hd:l.drop pos=92::r) {c e:Nat} (he:escN (92::r)=some (c,e)) (m:Mid w b k l (acc++bytesF c) (pos+1) w'):
  USt w b k l (acc++bytesF c) (pos+1) (pos+e) (pos+e) w':=by
 have T:=esc_told he
 have h1:=h.len
 have h2:=bytes_len c
 have h3:=T.two
 have h4:=T.le
 have hl:=congrArg List.length hd
 rw [List.length_drop]at hl
 have h5:pos < l.length:=by rw [List.length_cons]at hl;omega
 refine ⟨m,by omega,fun i h6 h7=> ?_,by omega, ?_,by omega,by rw [List.length_append];omega⟩
 ·have h8:=T.low (i - pos) (by omega)
  rw [←hd,getD_drop,show pos+(i - pos)=i by omega]at h8
  exact h8
 ·rw [h.unq,unq_at_esc hd he,Option.map_map]
  congr 1
  funext q
  simp only [Function.comp,List.append_assoc,Nat.add_assoc]
end
end Jt
open Jt
set_option maxRecDepth 100000 in
set_option maxHeartbeats 8000000 in
theorem jt_unquote (w:World) (l:List UInt8) (hl:l.length≤1000000000) (hE:ErrOk w):Calls Tryz.prog 166 #[.string (sb l)] w fun e w'=> e= .returned (unqV (unqF l))∧Below w.heap.size w w':=by
 match l with
 | []=>
  have h1:(sb []).toList=[]:=sb_list _
  show Calls _ _ _ _ fun e w'=> e= .returned (unqV none)∧_
  unfold unqV
  go_enter Tryz.func166,Tryz.ntmps166
  go_wp2_with fail
  go_ret3
  exact ⟨rfl,Below.refl _ _⟩
 | a::r=>
  have h1:¬(sb (a::r)).toList=[]:=by rw [sb_list];exact List.cons_ne_nil _ _
  have h2:(sb (a::r)).toList.isEmpty=false:=by rw [sb_list];rfl
  have hix:∀W,(Instr.index 9 (.string (sb (a::r))) (.int .i64 0)).run Tryz.prog W= .ok (.int .u8 (n8 a)) W:=fun W=> sb_index (a::r) 0 (by simp) W
  by_cases ha:a=34
  ·subst ha
   have hix:∀W,(Instr.index 9 (.string (sb (34::r))) (.int .i64 0)).run Tryz.prog W= .ok (.int .u8 34) W:=hix
   have hu:unqF (34::r)=(unqB ((34::r).drop 1)).map fun p=> ([]++p.1,1+p.2):=by rw [unqF,if_pos rfl];rfl
   have hl0:0 < (34::r).length:=by simp
   have h34:((34::r).getD 0 0).toNat < 128:=(by decide:(34:UInt8).toNat < 128)
   generalize 34::r=l at*
   have HU:=Lib.hid hu
   have HLO:=Lib.hid h34
   clear hu h34
   have HD:=Lib.hid (fun (i:Nat) (h:i < l.length)=> dec_at l h)
   have HT:=Lib.hid (fun (i:Nat) (h:i < l.length)=> told_is (at_of l h))
   have hsz:=sb_size l
   have HE:=Lib.hid hE
   clear hE
   have HIT:=Lib.hid (World.iter_heap (w.alloc (.cells #[.pointer none, .slice none 0 0] 78)) (sb l) 0)
   go_enter Tryz.func166,Tryz.ntmps166
   go_wp2_with fail
   go_loopg [6] l.length (fun g vn wx=> ∃(pos nx p:Nat) (acc:List UInt8),pos+g=l.length∧vn= .int .i64 (nx:Int)∧nx≤2000000000∧Hid (USt w w.heap.size (w.heap.size+1) l acc pos nx p wx))
   case atStart=>
    refine ⟨0,1,1,[],by omega,rfl,by omega,Lib.hid ⟨⟨(Bld.fresh w).alloc _, ?_,by omega,((Below.refl _ w).alloc (Nat.le_refl _) _).alloc (by simp) _⟩,by omega,fun j _ hj=> ?_,by omega,HU.out,by omega,by simp⟩⟩
    ·have:=HIT.out
     simpa using this
    ·obtain rfl:j=0:=by omega
     exact HLO.out
   case round=>
    obtain ⟨pos,nx,p,acc,hpg,rfl,hnx,HS⟩:=hrel
    have hit:=HS.out.mid.it
    cases gk with
    | zero=>
     obtain rfl:pos=l.length:=by omega
     have hnx:=fun ty=> Lib.run_next_end_at (P:=Tryz.prog) wr (w.heap.size+1) (sb l) l.length ty hit (by rw [hsz];omega)
     have HN:=Lib.hid (HS.out.over (Nat.lt_irrefl _))
     have HL:=Lib.hid HS.out.mid.low
     clear hit HS HD HT hsz HIT
     generalize sb l=S at*
     go_wp2_with fail
     go_ret3
     exact ⟨by rw [HN.out];rfl,HL.out⟩
    | succ g=>
     have hlt:pos < l.length:=by omega
     have hd:=HD.out pos hlt
     have T:=HT.out pos hlt
     have hnx1:=fun ty=> Lib.run_next_any_at (P:=Tryz.prog) wr (w.heap.size+1) (sb l) pos ty hit (by rw [hsz];exact hlt)
     rw [hd]at hnx1
     by_cases hsk:pos < nx
     ·have hj:=low_one hlt (HS.out.low pos (Nat.le_refl _) (by have:=HS.out.nx;omega))
      rw [hj]at hnx1
      generalize (orBad (charF (l[pos]::l.drop (pos+1)))).1=n at*
      have HN:=Lib.hid (HS.out.pass hsk (HS.out.mid.next (pos+1)))
      have hi:(pos:Int) < (nx:Int):=by omega
      clear hd T HD HT hit HS
      generalize wr.iterAt (w.heap.size+1) (sb l) (pos+1)=w2 at*
      go_wp2_with fail
      go_roundg g
      case measure=> omega
      case rel=> exact ⟨pos+1,nx,p,acc,by omega,rfl,hnx,HN⟩
     ·obtain rfl:=HS.out.here hsk
      have hi:¬(p:Int) < (nx:Int):=by omega
      have hat:=at_of l hlt
      obtain ⟨c,hc⟩:∃c,l[p]=c:=⟨_,rfl⟩
      obtain ⟨t,ht⟩:∃t,l.drop (p+1)=t:=⟨_,rfl⟩
      rw [hc,ht]at hat T hnx1 hd
      have HM2:=Lib.hid (HS.out.mid.next (p+(orBad (charF (c::t))).2))
      have HLN:=Lib.hid (show acc.length≤10000000000 by have:=HS.out.len;omega)
      have hnp:nx≤p:=by omega
      clear hd HD HT hit hsk HIT HLO HU hix h1 h2 hl0 hc ht
      by_cases c34:c=34
      ·subst c34
       have e1:orBad (charF (34::t))=(34,1):=rfl
       rw [e1]at hnx1 HM2
       have HN:=Lib.hid (show unqF l=some (acc,p+1)from by
        rw [HS.out.unq,unq_at_end hat]
        show some (acc++[],p+1)=_
        rw [List.append_nil])
       have hp1:(p:Int)≤1000000000:=by omega
       clear T HS hat
       dsimp only at hnx1 HM2
       change ∀ty,_=Result.ok (Value.tuple #[.bool true, .int .i64 (p:Int), .int .i32 34]) _ at hnx1
       generalize wr.iterAt (w.heap.size+1) (sb l) (p+1)=w2 at*
       generalize sb l=S at*
       go_wp2_with fail
       refine (bld_out HM2.out.bld HM2.out.lt).mono ?_
       rintro e w3 ⟨rfl,B3⟩
       have HB3:=Lib.hid (HM2.out.low.trans B3)
       clear B3
       go_wp2_with fail
       go_ret3
       exact ⟨by rw [HN.out];rfl,HB3.out⟩
      by_cases c92:c=92
      ·subst c92
       have e1:orBad (charF (92::t))=(92,1):=rfl
       rw [e1]at hnx1 HM2
       have hcut:=sb_cut l p l.length
       rw [List.take_length,hat]at hcut
       have HX:=Lib.hid (fun W (hW:ErrOk W)=> jt_escape W (92::t) (by
        have:=congrArg List.length hat
        rw [List.length_drop]at this
        omega) hW)
       have hp1:(p:Int)≤1000000000:=by omega
       have hpl:(p:Int)≤(l.length:Int):=by omega
       clear T
       dsimp only at hnx1 HM2
       change ∀ty,_=Result.ok (Value.tuple #[.bool true, .int .i64 (p:Int), .int .i32 92]) _ at hnx1
       have HE2:=Lib.hid (HE.out.below HM2.out.low)
       cases he:escN (92::t)with
       | none=>
        rw [he]at HX
        have HN:=Lib.hid (show unqF l=none from by
         rw [HS.out.unq,unq_at_none hat he]
         rfl)
        unfold escV at HX
        dsimp only at HX
        clear HS hat he
        generalize wr.iterAt (w.heap.size+1) (sb l) (p+1)=w2 at*
        generalize sb (92::t)=Z at*
        generalize sb l=S at*
        generalize l.length=ln at*
        go_wp2_with fail
        refine (HX.out _ HE2.out).mono ?_
        rintro e w3 ⟨rfl,B3⟩
        have HM3:=Lib.hid (HM2.out.low.trans (B3.mono HM2.out.lt))
        clear B3
        go_wp2_with fail
        go_ret3
        exact ⟨by rw [HN.out];rfl,HM3.out⟩
       | some ck=>
        obtain ⟨cc,kk⟩:=ck
        rw [he]at HX
        have hT:=esc_told he
        have hk2:=hT.two
        have hkl:=hT.le
        have HOK:=Lib.hid hT.ok
        have HN:=Lib.hid (fun (w':World) (m:Mid w w.heap.size (w.heap.size+1) l (acc++bytesF cc) (p+1) w')=> HS.out.esc hat he m)
        have hlt2:=congrArg List.length hat
        rw [List.length_drop]at hlt2
        have hkk:¬(kk:Int)=0:=by omega
        have hkb:(kk:Int)≤1000000000:=by omega
        have hkn:kk≤1000000000:=by omega
        have hk0:0≤(kk:Int):=by omega
        unfold escV at HX
        dsimp only at HX
        clear HS hat he hT hk2 hkl hlt2
        have HMN:=Lib.hid (fun (w3:World) (hb:Below (wr.iterAt (w.heap.size+1) (sb l) (p+1)).heap.size (wr.iterAt (w.heap.size+1) (sb l) (p+1)) w3)=> HM2.out.still hb)
        generalize hw2:wr.iterAt (w.heap.size+1) (sb l) (p+1)=w2 at*
        clear hw2
        generalize sb (92::t)=Z at*
        go_wp2_with fail
        refine (HX.out _ HE2.out).mono ?_
        rintro e w3 ⟨rfl,B3⟩
        have HM3:=Lib.hid (HMN.out _ B3)
        clear B3 HX HMN
        go_wp2_with fail
        refine (bld_rune HM3.out.bld (by have:=HLN.out;omega) HM3.out.lt HOK.out).mono ?_
        rintro e w4 ⟨⟨v,rfl⟩,W4⟩
        have HS4:=Lib.hid (HN.out w4 (HM3.out.wrote W4))
        clear W4
        go_wp2_with fail
        go_roundg g
        case measure=> omega
        case rel=> exact ⟨p+1,p+kk,p+kk,_,by omega,by go_num,by omega,HS4⟩
      ·have hn34:¬(orBad (charF (c::t))).1=34:=fun e=> c34 ((told_byte (c:=34) (by decide)).1 e)
       have hn92:¬(orBad (charF (c::t))).1=92:=fun e=> c92 ((told_byte (c:=92) (by decide)).1 e)
       have hsc:=T.ok
       have hj1:=T.pos
       have hjl:=T.le
       have hcut:=sb_cut l p l.length
       rw [List.take_length,hat]at hcut
       have HP:=Lib.hid (fun W=> has_sb (c::t) [239,191,189] W)
       have hpl:(p:Int)≤(l.length:Int):=by omega
       by_cases hz:(charF (c::t)).2=0∨(charF (c::t)).1 < 32
       ·have HN:=Lib.hid (show unqF l=none from by
         rw [HS.out.unq,unq_at_bad hat c34 c92 hz]
         rfl)
        by_cases h0:(charF (c::t)).2=0
        ·have e1:orBad (charF (c::t))=(65533,1):=by rw [orBad,if_pos h0]
         have hb:=(bad_or c t (by rw [e1])).1 h0
         have hpf:[239,191,189].isPrefixOf (c::t)=false:=by
          cases hq:[239,191,189].isPrefixOf (c::t)with
          | false=> rfl
          | true=> exact absurd (pre_take.1 hq) hb
         rw [hpf]at HP
         rw [e1]at hnx1 HM2
         dsimp only at hnx1 HM2
         change ∀ty,_=Result.ok (Value.tuple #[.bool true, .int .i64 (p:Int), .int .i32 65533]) _ at hnx1
         clear T HS hat hz h0 hb hpf e1 hn34 hn92 hsc hj1 hjl c34 c92
         generalize wr.iterAt (w.heap.size+1) (sb l) (p+1)=w2 at*
         generalize sb (c::t)=Z at*
         generalize sb l=S at*
         generalize l.length=ln at*
         go_wp2_with fail
         refine (HP.out _).mono ?_
         rintro e w3 ⟨rfl,rfl⟩
         go_wp2_with fail
         go_ret3
         exact ⟨by rw [HN.out];rfl,HM2.out.low⟩
        ·have e1:=orBad_good h0
         have hlow:=hz.resolve_left h0
         rw [e1]at hnx1 HM2 hn34 hn92
         have hni:((charF (c::t)).1:Int) < 32:=by omega
         clear T HS hat hz h0 e1 hsc hj1 hjl c34 c92
         generalize (charF (c::t)).1=n at*
         generalize (charF (c::t)).2=j at*
         have hi34:¬(n:Int)=34:=by omega
         have hi92:¬(n:Int)=92:=by omega
         clear hn34 hn92 hlow HP
         generalize (n:Int)=z at*
         generalize wr.iterAt (w.heap.size+1) (sb l) (p+j)=w2 at*
         generalize sb (c::t)=Z at*
         generalize sb l=S at*
         generalize l.length=ln at*
         go_wp2_with fail
         go_ret3
         exact ⟨by rw [HN.out];rfl,HM2.out.low⟩
       ·have h0:(charF (c::t)).2≠0:=fun e=> hz (.inl e)
        have h32:¬(charF (c::t)).1 < 32:=fun e=> hz (.inr e)
        have e1:=orBad_good h0
        have hbo:=bad_or c t
        rw [e1]at hnx1 HM2 hn34 hn92 hsc hj1 hjl hbo
        have HN:=Lib.hid (fun (w':World) m=> HS.out.char (w':=w') hat c34 c92 hz hnp m)
        clear T HS hat hz e1 c34 c92
        have hpf:(charF (c::t)).1=65533→[239,191,189].isPrefixOf (c::t)=true:=fun e=> pre_take.2 (Decidable.byContradiction fun hq=> h0 ((hbo e).2 hq))
        clear hbo h0
        generalize (charF (c::t)).1=n at*
        generalize (charF (c::t)).2=j at*
        have HOK:=Lib.hid hsc
        obtain ⟨z,hz0⟩:∃z:Int,z=(n:Int):=⟨_,rfl⟩
        rw [←hz0]at hnx1
        have hi32:¬z < 32:=by omega
        have hi34:¬z=34:=by omega
        have hi92:¬z=92:=by omega
        have HZ:=Lib.hid hz0
        generalize wr.iterAt (w.heap.size+1) (sb l) (p+j)=w2 at*
        have HBR:=Lib.hid (bld_rune HM2.out.bld (by have:=HLN.out;omega) HM2.out.lt HOK.out)
        rw [←hz0]at HBR
        by_cases hbad:z=65533
        ·have hb2:=hpf (by omega)
         rw [hb2]at HP
         subst hbad
         clear hz0 HZ hb2 hpf hn34 hn92 hsc h32
         generalize sb (c::t)=Z at*
         go_wp2_with fail
         refine (HP.out _).mono ?_
         rintro e w3 ⟨rfl,rfl⟩
         go_wp2_with fail
         refine HBR.out.mono ?_
         rintro e w4 ⟨⟨v,rfl⟩,W4⟩
         have HS4:=Lib.hid (HN.out w4 (HM2.out.wrote W4))
         clear W4
         go_wp2_with fail
         go_roundg (g+1 - j)
         case measure=> omega
         case rel=> exact ⟨p+j,nx,p+j,_,by omega,rfl,hnx,HS4⟩
        ·clear hz0 HZ hpf hn34 hn92 hsc h32 HP
         go_wp2_with fail
         refine HBR.out.mono ?_
         rintro e w4 ⟨⟨v,rfl⟩,W4⟩
         have HS4:=Lib.hid (HN.out w4 (HM2.out.wrote W4))
         clear W4
         go_wp2_with fail
         go_roundg (g+1 - j)
         case measure=> omega
         case rel=> exact ⟨p+j,nx,p+j,_,by omega,rfl,hnx,HS4⟩
  ·have hn:¬n8 a=34:=fun e=> ha (n8_is (c:=34) e)
   have hu:unqF (a::r)=none:=by rw [unqF,if_neg ha]
   rw [hu]
   unfold unqV
   generalize sb (a::r)=S at*
   generalize n8 a=d at*
   clear hu ha
   go_enter Tryz.func166,Tryz.ntmps166
   go_wp2_with fail
   go_ret3
   exact ⟨rfl,Below.refl _ _⟩
end Go.Proofs.YtgmangikcfakgaaGreatDoor
namespace Go.Proofs.YtgmangikcfakgaaGreatDoor
open Go.RowKit Sh
namespace Jt
end Jt
open Jt
end Go.Proofs.YtgmangikcfakgaaGreatDoor
