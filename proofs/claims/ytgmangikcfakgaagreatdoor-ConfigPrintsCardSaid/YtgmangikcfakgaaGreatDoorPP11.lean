import Derived.Test.YtgmangikcfakgaaGreatDoorPP10
import Derived.Test.YtgmangikcfakgaaGreatDoorPP9
namespace Go.Proofs.YtgmangikcfakgaaGreatDoor
open Go.RowKit Sh
namespace Jt
theorem sb_from' (l:List UInt8) (k n:Nat) (h:n=l.length):(sb l).extract k n=sb (l.drop k):=by
 subst h
 have:=sb_cut l k l.length
 rw [List.take_length]at this
 exact this
theorem sb_upto (l:List UInt8) (k:Nat):(sb l).extract 0 k=sb (l.take k):=by
 have:=sb_cut l 0 k
 rw [List.drop_zero]at this
 exact this
theorem drop_tail (a:UInt8) (r:List UInt8) (k:Nat) (h:1≤k):(a::r).drop k=r.drop (k - 1):=by
 obtain ⟨m,rfl⟩:∃m,k=m+1:=⟨k - 1,by omega⟩
 rfl
theorem take_char {a:UInt8} {r:List UInt8} (h:(charF (a::r)).2≠0):(a::r).take (charF (a::r)).2=bytesF (charF (a::r)).1:=by
 obtain ⟨_,h2,t,h3⟩:=char_is h
 rw [h2]
 conv=> lhs;arg 2;rw [h3]
 rw [List.take_left]
theorem char_len {a:UInt8} {r:List UInt8} (h:(charF (a::r)).2≠0):1≤(charF (a::r)).2∧(charF (a::r)).2≤(a::r).length:=by
 obtain ⟨_,h2,t,h3⟩:=char_is h
 have hl:=congrArg List.length h3
 rw [List.length_append]at hl
 omega
theorem valid_on {a:UInt8} {r:List UInt8} (h:(charF (a::r)).2≠0):validF (a::r)=validF ((a::r).drop (charF (a::r)).2):=by
 rw [validF,if_neg h,drop_tail a r _ (char_len h).1]
theorem quote_on {a:UInt8} {r:List UInt8} (h:(charF (a::r)).2≠0):quoteB (a::r)=(if (charF (a::r)).1 < 128 then oneF (charF (a::r)).1 else bytesF (charF (a::r)).1)++quoteB ((a::r).drop (charF (a::r)).2):=by
 conv=> lhs;rw [quoteB,if_neg h]
 rw [drop_tail a r _ (char_len h).1]
theorem app_ok {a b:List UInt8} (h:a.length+b.length≤9223372036854775807):¬9223372036854775807 < (sb a).size+(sb b).size:=by
 rw [sb_size,sb_size]
 omega
end Jt
open Jt
set_option maxRecDepth 100000 in
set_option maxHeartbeats 4000000 in
theorem jt_rvalid (w:World) (s:List UInt8) (hl:s.length≤1000000000):Calls Tryz.prog 47 #[.string (sb s)] w fun e w'=> e= .returned (.bool (validF s))∧Below w.heap.size w w':=by
 go_enter Tryz.func47,Tryz.ntmps47
 go_wp2_with fail
 go_loopg [0] s.length (fun g vs wx=> ∃t:List UInt8,vs= .string (sb t)∧t.length=g∧g≤1000000000∧Hid (validF s=validF t)∧Hid (Below w.heap.size w wx))
 case atStart=> exact ⟨s,rfl,rfl,hl,Lib.hid rfl,Lib.hid (Below.refl _ _)⟩
 case round=>
  obtain ⟨t,rfl,htl,hgl,HV,HB⟩:=hrel
  match t with
  | []=>
   have h1:(sb []).toList=[]:=sb_list _
   have HE:=Lib.hid (show validF s=true from by rw [HV.out,valid_nil])
   go_wp2_with fail
   go_ret
   exact ⟨by rw [HE.out];rfl,HB.out⟩
  | a::r=>
   have h1:¬(sb (a::r)).toList=[]:=by rw [sb_list];exact List.cons_ne_nil _ _
   have h2:(sb (a::r)).toList.isEmpty=false:=by rw [sb_list];rfl
   have HC:=Lib.hid (jt_char wr (a::r) (List.cons_ne_nil _ _) (by rw [htl];exact hgl))
   by_cases h0:(charF (a::r)).2=0
   ·have HE:=Lib.hid (show validF s=false from by rw [HV.out,valid_bad h0])
    have hc:charF (a::r)=(0,0)∨True:= .inr trivial
    clear hc
    unfold charV at HC
    rw [h0]at HC
    generalize ((charF (a::r)).1:Int)=z at*
    generalize hS:sb (a::r)=S at*
    clear hS h0
    go_wp2_with fail
    refine HC.out.mono ?_
    rintro e w2 ⟨rfl,B2⟩
    have HB2:=Lib.hid (HB.out.trans (B2.mono HB.out.size))
    clear B2
    go_wp2_with fail
    go_ret
    exact ⟨by rw [HE.out];rfl,HB2.out⟩
   ·have HV2:=Lib.hid (HV.out.trans (valid_on h0))
    obtain ⟨c1,c2⟩:=char_len h0
    have hcut:=sb_from' (a::r) (charF (a::r)).2 gk htl.symm
    have hsz:=sb_size (a::r)
    have HL:=Lib.hid (show ((a::r).drop (charF (a::r)).2).length=gk - (charF (a::r)).2 from by rw [List.length_drop,htl])
    rw [htl]at hsz c2
    unfold charV at HC
    clear h0 htl HV
    generalize (a::r).drop (charF (a::r)).2=t2 at*
    generalize ((charF (a::r)).1:Int)=z at*
    generalize (charF (a::r)).2=k at*
    generalize hS:sb (a::r)=S at*
    clear hS
    have hk0:¬(k:Int)=0:=by omega
    have hk1:(k:Int)≤(gk:Int):=by omega
    go_wp2_with fail
    refine HC.out.mono ?_
    rintro e w2 ⟨rfl,B2⟩
    have HB2:=Lib.hid (HB.out.trans (B2.mono HB.out.size))
    clear B2
    go_wp2_with fail
    go_roundg (gk - k)
    case measure=> omega
    case rel=> exact ⟨t2,rfl,HL.out,by omega,HV2,HB2⟩
set_option maxRecDepth 100000 in
set_option maxHeartbeats 8000000 in
theorem jt_rquote (w:World) (s:List UInt8) (hl:s.length≤1000000000):Calls Tryz.prog 114 #[.string (sb s)] w fun e w'=> e= .returned (.string (sb (quoteF s)))∧Below w.heap.size w w':=by
 go_enter Tryz.func114,Tryz.ntmps114
 go_wp2_with fail
 go_loopg [0,3] s.length (fun g vs vo wx=> ∃t acc:List UInt8,vs= .string (sb t)∧vo= .string (sb acc)∧t.length=g∧g≤1000000000∧acc.length+6*g≤6000000001∧Hid (acc++quoteB t=34::quoteB s)∧Hid (Below w.heap.size w wx))
 case atStart=> exact ⟨s,[34],rfl,rfl,rfl,hl,by simp;omega,Lib.hid rfl,Lib.hid (Below.refl _ _)⟩
 case round=>
  obtain ⟨t,acc,rfl,rfl,htl,hgl,hal,HV,HB⟩:=hrel
  match t with
  | []=>
   have h1:(sb []).toList=[]:=sb_list _
   have HE:=Lib.hid (show acc++[34]=quoteF s from by
    have:=HV.out
    rw [quote_nil,List.append_nil]at this
    rw [this]
    rfl)
   have happ:sb acc++(⟨#[34]⟩:ByteArray)=sb (acc++[34]):=sb_app acc [34]
   have hns:¬9223372036854775807 < (sb acc).size+(⟨#[34]⟩:ByteArray).size:=app_ok (a:=acc) (b:=[34]) (by simp;omega)
   rw [HE.out]at happ
   generalize sb acc=A at*
   go_wp2_with fail
   go_ret
   exact ⟨rfl,HB.out⟩
  | a::r=>
   have h1:¬(sb (a::r)).toList=[]:=by rw [sb_list];exact List.cons_ne_nil _ _
   have h2:(sb (a::r)).toList.isEmpty=false:=by rw [sb_list];rfl
   have HC:=Lib.hid (jt_char wr (a::r) (List.cons_ne_nil _ _) (by rw [htl];exact hgl))
   have hsz:=sb_size (a::r)
   rw [htl]at hsz
   by_cases h0:(charF (a::r)).2=0
   ·have HV2:=Lib.hid (show (acc++bytesF 65533)++quoteB r=34::quoteB s from by rw [List.append_assoc,←quote_bad h0,HV.out])
    have hcut:(sb (a::r)).extract 1 gk=sb r:=sb_from' (a::r) 1 gk htl.symm
    have HBy:=Lib.hid (fun W=> jt_bytes W 65533 (by decide))
    have happ:=sb_app acc (bytesF 65533)
    have hns:¬9223372036854775807 < (sb acc).size+(sb (bytesF 65533)).size:=app_ok (by have:=bytes_len 65533;omega)
    have HLA:=Lib.hid (show (acc++bytesF 65533).length≤acc.length+4 from by rw [List.length_append];have:=bytes_len 65533;omega)
    have hrl:r.length+1=gk:=htl
    unfold charV at HC
    rw [h0]at HC
    clear h0 htl HV
    change Hid (∀W:World,Calls _ _ #[.int .i64 65533] W _)at HBy
    generalize ((charF (a::r)).1:Int)=z at*
    generalize bytesF 65533=b3 at*
    generalize hS:sb (a::r)=S at*
    clear hS
    generalize hA:sb acc=A at*
    clear hA
    generalize sb b3=X at*
    have hg1:1≤(gk:Int):=by omega
    go_wp2_with fail
    refine HC.out.mono ?_
    rintro e w2 ⟨rfl,B2⟩
    have HB2:=Lib.hid (HB.out.trans (B2.mono HB.out.size))
    clear B2
    go_wp2_with fail
    refine (HBy.out _).mono ?_
    rintro e w3 ⟨rfl,B3⟩
    have HB3:=Lib.hid (HB2.out.trans (B3.mono HB2.out.size))
    clear B3
    go_wp2_with fail
    go_roundg r.length
    case measure=> omega
    case rel=> exact ⟨r,_,rfl,rfl,rfl,by omega,by have:=HLA.out;omega,HV2,HB3⟩
   ·have hq:=quote_on h0
    have htk:=take_char h0
    obtain ⟨c1,c2⟩:=char_len h0
    have hcut:=sb_from' (a::r) (charF (a::r)).2 gk htl.symm
    have hcut0:=sb_upto (a::r) (charF (a::r)).2
    have HL:=Lib.hid (show ((a::r).drop (charF (a::r)).2).length=gk - (charF (a::r)).2 from by rw [List.length_drop,htl])
    have HQ:=HV.out
    rw [hq]at HQ
    rw [htl]at c2
    rw [htk]at hcut0
    unfold charV at HC
    clear h0 htl HV hq htk
    generalize (a::r).drop (charF (a::r)).2=t2 at*
    generalize (charF (a::r)).1=n at*
    generalize (charF (a::r)).2=k at*
    generalize hS:sb (a::r)=S at*
    clear hS
    have hk0:¬(k:Int)=0:=by omega
    have hk1:(k:Int)≤(gk:Int):=by omega
    by_cases h128:n < 128
    ·rw [if_pos h128]at HQ
     have HQ2:=Lib.hid (show (acc++oneF n)++quoteB t2=34::quoteB s from by rw [List.append_assoc];exact HQ)
     have HO:=Lib.hid (fun W=> jt_one W n h128)
     have hol:=one_len h128
     have happ:=sb_app acc (oneF n)
     have hns:¬9223372036854775807 < (sb acc).size+(sb (oneF n)).size:=app_ok (by omega)
     have HLA:=Lib.hid (show (acc++oneF n).length≤acc.length+6 from by rw [List.length_append];omega)
     have hni:(n:Int) < 128:=by omega
     clear HQ h128 hol hcut0
     generalize oneF n=b3 at*
     generalize (n:Int)=z at*
     generalize hA:sb acc=A at*
     clear hA
     generalize sb b3=X at*
     go_wp2_with fail
     refine HC.out.mono ?_
     rintro e w2 ⟨rfl,B2⟩
     have HB2:=Lib.hid (HB.out.trans (B2.mono HB.out.size))
     clear B2
     go_wp2_with fail
     refine (HO.out _).mono ?_
     rintro e w3 ⟨rfl,B3⟩
     have HB3:=Lib.hid (HB2.out.trans (B3.mono HB2.out.size))
     clear B3
     go_wp2_with fail
     go_roundg (gk - k)
     case measure=> omega
     case rel=> exact ⟨t2,_,rfl,rfl,HL.out,by omega,by have:=HLA.out;omega,HQ2,HB3⟩
    ·rw [if_neg h128]at HQ
     have HQ2:=Lib.hid (show (acc++bytesF n)++quoteB t2=34::quoteB s from by rw [List.append_assoc];exact HQ)
     have hol:=bytes_len n
     have happ:=sb_app acc (bytesF n)
     have hns:¬9223372036854775807 < (sb acc).size+(sb (bytesF n)).size:=app_ok (by omega)
     have HLA:=Lib.hid (show (acc++bytesF n).length≤acc.length+4 from by rw [List.length_append];omega)
     have hni:¬(n:Int) < 128:=by omega
     clear HQ h128 hol
     generalize bytesF n=b3 at*
     generalize (n:Int)=z at*
     generalize hA:sb acc=A at*
     clear hA
     generalize sb b3=X at*
     go_wp2_with fail
     refine HC.out.mono ?_
     rintro e w2 ⟨rfl,B2⟩
     have HB2:=Lib.hid (HB.out.trans (B2.mono HB.out.size))
     clear B2
     go_wp2_with fail
     go_roundg (gk - k)
     case measure=> omega
     case rel=> exact ⟨t2,_,rfl,rfl,HL.out,by omega,by have:=HLA.out;omega,HQ2,HB2⟩
end Go.Proofs.YtgmangikcfakgaaGreatDoor
