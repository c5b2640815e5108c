import Derived.Test.YtgmangikcfakgaaGreatDoorPP6
import Derived.Test.YtgmangikcfakgaaGreatDoorPP33
import Derived.Test.YtgmangikcfakgaaGreatDoorPP11
import Derived.Test.YtgmangikcfakgaaGreatDoorPP19
import Derived.Test.YtgmangikcfakgaaGreatDoorPP29
import Derived.Test.YtgmangikcfakgaaGreatDoorPP43
namespace Go.Proofs.YtgmangikcfakgaaGreatDoor
open Go.RowKit Sh Jt Js
theorem Js.PrS.len {L x:List V} {d:Nat} {o:Bool} {T:List UInt8} {i k g:Nat} {u:List UInt8} (h:PrS L x d o T i k g u):u.length≤T.length:=by
 obtain ⟨ks,l,t,_,_,_,h4,h5⟩:=h
 by_cases hi:i=0
 ·rw [(h4 hi).1]
  exact Nat.zero_le _
 ·rw [h5 (by omega),List.length_append]
  omega
def RPrintP (m:Nat):Prop:=∀(d a c:Nat) (ob:Bool) (v:V) (r x:List V) (t:List UInt8) (w:World) (A:Option Addr) (L:List V),d+m=50→Js.One d ob v r t→L.drop a=v::(r++x)→t.length≤1000000000000→ValsAt w A L.length c L→L.length≤250000→Short 1000000000 L→
 Calls Tryz.prog 78 #[.slice A L.length c, .int .i64 (a:Int)] w fun e w'=> e= .returned (.string (sb (body v t)))∧Hid (Below w.heap.size w w')
theorem js_boxV (w:World) (k n:Int) (s1 s2:ByteArray):Row (w.alloc (.cells #[.int .i64 k, .string s1, .string s2, .int .i64 n] 72)) w.heap.size 72 [.int .i64 k, .string s1, .string s2, .int .i64 n]:=Row.new w 72 [.int .i64 k, .string s1, .string s2, .int .i64 n]
theorem row_03 {w:World} {b:Nat} {k n:Int} {s1 s2:ByteArray} (h:Row w b 72 [.int .i64 k, .string s1, .string s2, .int .i64 n]):w.cell? ⟨b,0,none⟩=some (.int .i64 k)∧w.cell? ⟨b,3,none⟩=some (.int .i64 n):=⟨h.cell rfl,h.cell rfl⟩
set_option maxRecDepth 100000 in
set_option maxHeartbeats 16000000 in
theorem js_rprintV:∀m,RPrintP m:=by
 intro m
 induction m with
 | zero=>
  intro d a c ob v r x t w A L hd h1
  have:=h1.deep
  omega
 | succ m ih=>
  intro d a c ob v r x t w A L hd h1 hdr htl hL hn hs
  obtain ⟨ha,hv⟩:=at_drop hdr
  obtain ⟨b,o,rfl,hb,_⟩:=hL.at_ (by omega)
  obtain ⟨c0,c1,c2,c3⟩:=hL.cells ha
  rw [hv]at c0 c1 c2 c3
  have htx:v.text.length≤1000000000:=by rw [←hv];exact (hs _ (List.getElem_mem ha)).2
  have ha9:(a:Int) < (L.length:Int):=by omega
  by_cases hg:grp v=true
  ·obtain ⟨cn,hcn⟩:∃cn:Nat,v.count=(cn:Int):=⟨v.count.toNat,by have:=own_count h1.own;omega⟩
   have HPS:=Lib.hid (PrS.start h1 hdr hcn)
   have hcl:cn≤250000:=by
    obtain ⟨e1,e2⟩:=KidS.count h1
    have:=congrArg List.length hdr
    rw [List.length_drop,List.length_cons,List.length_append]at this
    omega
   have HIH:=Lib.hid (fun W (q:Below w.heap.size w W) (k:Nat) (v1:V) (l1 y:List V) (t1:List UInt8) (ho:Js.One (d+1) (isObj v) v1 l1 t1) (hk:L.drop k=v1::(l1++y)) (h3:t1.length≤t.length)=> ih (d+1) k c (isObj v) v1 l1 y t1 W (some ⟨b,o,none⟩) L (by omega) ho hk (by omega) (hL.below q) hn hs)
   have HE:=Lib.hid (fun W (q:Below w.heap.size w W) (k e:Nat) (hk:k < L.length) (h:endW (L.drop k) 1=some e)=> js_rend W (some ⟨b,o,none⟩) c L (hL.below q) hn k e hk h)
   have HKC:=Lib.hid (fun W (q:Below w.heap.size w W) (k:Nat) (hk:k < L.length)=> ((hL.below q).cells hk).2.1)
   have HKL:=Lib.hid (fun (k:Nat) (hk:k < L.length)=> And.intro (show (k:Int) < (L.length:Int)by omega) (hs _ (List.getElem_mem hk)).1)
   rw [hcn]at c3
   have hkd:v.kind=5∨v.kind=6:=of_decide_eq_true hg
   have HOB:=Lib.hid (show isObj v=decide (v.kind=6)from rfl)
   clear ih h1 hdr hL hs hv hg hcn htx
   obtain ⟨BD,hBD⟩:∃BD,BD=body v t:=⟨_,rfl⟩
   rw [←hBD]
   have HBDY:=Lib.hid hBD
   clear hBD
   obtain ⟨kd,key,tx,z⟩:=v
   dsimp only at c0 c1 c2 c3 hkd
   rcases hkd with rfl | rfl
   ·have hz:True:=trivial
    have hoo:isObj (⟨5,key,tx,z⟩:V)=false:=rfl
    rw [hoo]at HPS HIH
    clear hoo HOB
    have HBD:Hid (BD=91::(t++[93])):=Lib.hid HBDY.out
    clear HBDY
    go_enter Tryz.func78,Tryz.ntmps78
    go_upto_region 2 with fail
    have HBX:=Lib.hid (And.intro (below_alloc' w (.cells #[.int .i64 5, .string (sb key), .string (sb tx), .int .i64 (cn:Int)] 72)) (js_boxV w 5 (cn:Int) (sb key) (sb tx)))
    generalize w.alloc (.cells #[.int .i64 5, .string (sb key), .string (sb tx), .int .i64 (cn:Int)] 72)=w0 at*
    generalize sb key=KEY at*
    generalize sb tx=TX at*
    obtain ⟨x0,x3⟩:=row_03 HBX.out.2
    clear c0 c1 c2 c3
    go_wp2_with fail
    go_loopg [6,7,8] cn (fun g v6 v7 v8 wx=> ∃(u:List UInt8) (k i:Nat),v6= .string (sb u)∧v7= .int .i64 (k:Int)∧v8= .int .i64 (i:Int)∧i+g=cn∧Hid (PrS L x (d+1) false t i k g u)∧Hid (Below w.heap.size w wx∧Row wx w.heap.size 72 [.int .i64 5, .string KEY, .string TX, .int .i64 (cn:Int)]))
    case atStart=> exact ⟨[],a+1,0,rfl,by go_num,rfl,by omega,HPS,HBX⟩
    case round=>
     clear HPS HBX x0 x3
     obtain ⟨u,k,i,rfl,rfl,rfl,hig,HP,HX⟩:=hrel
     obtain ⟨x0,x3⟩:=row_03 HX.out.2
     have hul:=HP.out.len
     cases gk with
     | zero=>
      obtain rfl:i=cn:=by omega
      have hge:¬(i:Int) < (i:Int):=by omega
      obtain rfl:=HP.out.done
      have e1:(⟨#[91]⟩:ByteArray)++sb u=sb (91::u):=sb_app [91] u
      have n1:¬9223372036854775807 < (⟨#[91]⟩:ByteArray).size+(sb u).size:=app_ok (a:=[91]) (by rw [List.length_singleton];omega)
      have e2:sb (91::u)++(⟨#[93]⟩:ByteArray)=sb (91::(u++[93])):=sb_app (91::u) [93]
      have n2:¬9223372036854775807 < (sb (91::u)).size+(⟨#[93]⟩:ByteArray).size:=app_ok (b:=[93]) (by rw [List.length_cons,List.length_singleton];omega)
      have hB:=congrArg sb HBD.out
      have HBD2:=Lib.hid hB
      clear HP HBD HIH HE HKC HKL hB hul
      generalize sb (91::(u++[93]))=U2 at*
      generalize sb (91::u)=U1 at*
      generalize sb u=U at*
      go_wp2_with fail
      go_ret
      exact ⟨by rw [HBD2.out];rfl,Lib.hid HX.out.1⟩
     | succ g=>
      have hlt:(i:Int) < (cn:Int):=by omega
      obtain ⟨v1,l1,t1,y,q1,q2,q3,q4,q5,q6,q7⟩:=HP.out.next
      obtain ⟨_,hkv⟩:=at_drop q2
      obtain ⟨hk9,hkl⟩:=HKL.out k q3
      have zk:=HKC.out wr HX.out.1 k q3
      rw [hkv]at zk hkl
      have HPC:=Lib.hid (fun W q=> HIH.out W q k v1 l1 y t1 q1 q2 q4)
      have HEC:=Lib.hid (fun W q=> HE.out W q k (l1.length+1) q3 q5)
      have HQC:=Lib.hid (fun W=> jt_rquote W v1.key hkl)
      have HN:=Lib.hid q6
      have hl7:=q7
      generalize hbd:body v1 t1=bd at*
      clear hbd
      clear HP HIH HE HKC HKL q1 q2 q3 q4 q5 q6 q7 HBD hkv
      generalize l1.length=ll at*
      generalize v1.key=ky at*
      unfold named58 comma at HN hl7
      by_cases hi:i=0
      ·subst hi
       rw [if_pos rfl]at HN hl7
       rw [if_neg (by decide)]at HN hl7
       simp only [List.length_append]at hl7
       have e0:sb u++sb bd=sb (u++bd):=sb_app u bd
       have n0:¬9223372036854775807 < (sb u).size+(sb bd).size:=app_ok (a:=u) (b:=bd) (by first | omega | (simp only [List.length_append,List.length_cons,List.length_nil];omega))
       obtain ⟨UN,hUN⟩:∃UN,UN=sb (u++bd):=⟨_,rfl⟩
       rw [←hUN]at e0
       have HUN:=Lib.hid hUN
       clear hUN hl7 hul hkl
       generalize sb bd=S0 at*
       generalize sb u=S1 at*
       go_wp2_with fail
       have HB0:=Lib.hid HX.out.1
       have HX0:=Lib.hid HX.out.2
       have hx0:=HX0.out.lt
       clear HX
       refine (HPC.out wr HB0.out).mono ?_
       rintro e w3 ⟨rfl,K3⟩
       have HB1:=Lib.hid (HB0.out.trans (K3.out.mono HB0.out.size))
       have HX1:=Lib.hid (show Row w3 w.heap.size 72 _ from HX0.out.below K3.out HX0.out.lt)
       clear HB0 HX0
       clear HPC K3 HQC
       go_wp2_with fail
       refine (HEC.out w3 HB1.out).mono ?_
       rintro e w4 ⟨rfl,K4⟩
       have HB2:=Lib.hid (HB1.out.trans (K4.out.mono HB1.out.size))
       have HX2:=Lib.hid (show Row w4 w.heap.size 72 _ from HX1.out.below K4.out HX1.out.lt)
       clear HB1 HX1
       clear HEC K4
       go_wp2_with fail
       go_roundg g
       case measure=> omega
       case rel=> exact ⟨_,k+(ll+1),1,congrArg Value.string HUN.out,rfl,by go_num,by omega,HN,Lib.hid ⟨HB2.out,HX2.out⟩⟩
      ·have hi0:(0:Int) < (i:Int):=by omega
       rw [if_neg hi]at HN hl7
       rw [if_neg (by decide)]at HN hl7
       simp only [List.length_append,List.length_cons,List.length_nil]at hl7
       have e0:sb u++(⟨#[44]⟩:ByteArray)=sb (u++[44]):=sb_app u [44]
       have n0:¬9223372036854775807 < (sb u).size+((⟨#[44]⟩:ByteArray)).size:=app_ok (a:=u) (b:=[44]) (by first | omega | (simp only [List.length_cons,List.length_nil];omega))
       have e1:sb (u++[44])++sb bd=sb ((u++[44])++bd):=sb_app (u++[44]) bd
       have n1:¬9223372036854775807 < (sb (u++[44])).size+(sb bd).size:=app_ok (a:=(u++[44])) (b:=bd) (by first | omega | (simp only [List.length_append,List.length_cons,List.length_nil];omega))
       obtain ⟨UN,hUN⟩:∃UN,UN=sb ((u++[44])++bd):=⟨_,rfl⟩
       rw [←hUN]at e1
       have HUN:=Lib.hid hUN
       clear hUN hl7 hul hkl
       generalize sb (u++[44])=S0 at*
       generalize sb bd=S1 at*
       generalize sb u=S2 at*
       go_wp2_with fail
       have HB0:=Lib.hid HX.out.1
       have HX0:=Lib.hid HX.out.2
       have hx0:=HX0.out.lt
       clear HX
       refine (HPC.out wr HB0.out).mono ?_
       rintro e w3 ⟨rfl,K3⟩
       have HB1:=Lib.hid (HB0.out.trans (K3.out.mono HB0.out.size))
       have HX1:=Lib.hid (show Row w3 w.heap.size 72 _ from HX0.out.below K3.out HX0.out.lt)
       clear HB0 HX0
       clear HPC K3 HQC
       go_wp2_with fail
       refine (HEC.out w3 HB1.out).mono ?_
       rintro e w4 ⟨rfl,K4⟩
       have HB2:=Lib.hid (HB1.out.trans (K4.out.mono HB1.out.size))
       have HX2:=Lib.hid (show Row w4 w.heap.size 72 _ from HX1.out.below K4.out HX1.out.lt)
       clear HB1 HX1
       clear HEC K4
       go_wp2_with fail
       go_roundg g
       case measure=> omega
       case rel=> exact ⟨_,k+(ll+1),i+1,congrArg Value.string HUN.out,rfl,by go_num,by omega,HN,Lib.hid ⟨HB2.out,HX2.out⟩⟩
   ·have hz:True:=trivial
    have hoo:isObj (⟨6,key,tx,z⟩:V)=true:=rfl
    rw [hoo]at HPS HIH
    clear hoo HOB
    have HBD:Hid (BD=123::(t++[125])):=Lib.hid HBDY.out
    clear HBDY
    go_enter Tryz.func78,Tryz.ntmps78
    go_upto_region 2 with fail
    have HBX:=Lib.hid (And.intro (below_alloc' w (.cells #[.int .i64 6, .string (sb key), .string (sb tx), .int .i64 (cn:Int)] 72)) (js_boxV w 6 (cn:Int) (sb key) (sb tx)))
    generalize w.alloc (.cells #[.int .i64 6, .string (sb key), .string (sb tx), .int .i64 (cn:Int)] 72)=w0 at*
    generalize sb key=KEY at*
    generalize sb tx=TX at*
    obtain ⟨x0,x3⟩:=row_03 HBX.out.2
    clear c0 c1 c2 c3
    go_wp2_with fail
    go_loopg [6,7,8] cn (fun g v6 v7 v8 wx=> ∃(u:List UInt8) (k i:Nat),v6= .string (sb u)∧v7= .int .i64 (k:Int)∧v8= .int .i64 (i:Int)∧i+g=cn∧Hid (PrS L x (d+1) true t i k g u)∧Hid (Below w.heap.size w wx∧Row wx w.heap.size 72 [.int .i64 6, .string KEY, .string TX, .int .i64 (cn:Int)]))
    case atStart=> exact ⟨[],a+1,0,rfl,by go_num,rfl,by omega,HPS,HBX⟩
    case round=>
     clear HPS HBX x0 x3
     obtain ⟨u,k,i,rfl,rfl,rfl,hig,HP,HX⟩:=hrel
     obtain ⟨x0,x3⟩:=row_03 HX.out.2
     have hul:=HP.out.len
     cases gk with
     | zero=>
      obtain rfl:i=cn:=by omega
      have hge:¬(i:Int) < (i:Int):=by omega
      obtain rfl:=HP.out.done
      have e1:(⟨#[123]⟩:ByteArray)++sb u=sb (123::u):=sb_app [123] u
      have n1:¬9223372036854775807 < (⟨#[123]⟩:ByteArray).size+(sb u).size:=app_ok (a:=[123]) (by rw [List.length_singleton];omega)
      have e2:sb (123::u)++(⟨#[125]⟩:ByteArray)=sb (123::(u++[125])):=sb_app (123::u) [125]
      have n2:¬9223372036854775807 < (sb (123::u)).size+(⟨#[125]⟩:ByteArray).size:=app_ok (b:=[125]) (by rw [List.length_cons,List.length_singleton];omega)
      have hB:=congrArg sb HBD.out
      have HBD2:=Lib.hid hB
      clear HP HBD HIH HE HKC HKL hB hul
      generalize sb (123::(u++[125]))=U2 at*
      generalize sb (123::u)=U1 at*
      generalize sb u=U at*
      go_wp2_with fail
      go_ret
      exact ⟨by rw [HBD2.out];rfl,Lib.hid HX.out.1⟩
     | succ g=>
      have hlt:(i:Int) < (cn:Int):=by omega
      obtain ⟨v1,l1,t1,y,q1,q2,q3,q4,q5,q6,q7⟩:=HP.out.next
      obtain ⟨_,hkv⟩:=at_drop q2
      obtain ⟨hk9,hkl⟩:=HKL.out k q3
      have zk:=HKC.out wr HX.out.1 k q3
      rw [hkv]at zk hkl
      have HPC:=Lib.hid (fun W q=> HIH.out W q k v1 l1 y t1 q1 q2 q4)
      have HEC:=Lib.hid (fun W q=> HE.out W q k (l1.length+1) q3 q5)
      have HQC:=Lib.hid (fun W=> jt_rquote W v1.key hkl)
      have HN:=Lib.hid q6
      have hl7:=q7
      generalize hbd:body v1 t1=bd at*
      clear hbd
      clear HP HIH HE HKC HKL q1 q2 q3 q4 q5 q6 q7 HBD hkv
      generalize l1.length=ll at*
      generalize v1.key=ky at*
      unfold named58 comma at HN hl7
      by_cases hi:i=0
      ·subst hi
       rw [if_pos rfl]at HN hl7
       rw [if_pos rfl]at HN hl7
       simp only [List.length_append,List.length_cons,List.length_nil]at hl7
       have e0:sb u++sb (quoteF ky)=sb (u++quoteF ky):=sb_app u (quoteF ky)
       have n0:¬9223372036854775807 < (sb u).size+(sb (quoteF ky)).size:=app_ok (a:=u) (b:=(quoteF ky)) (by first | omega | (simp only [List.length_append,List.length_cons,List.length_nil];omega))
       have e1:sb (u++quoteF ky)++(⟨#[58]⟩:ByteArray)=sb (u++quoteF ky++[58]):=sb_app (u++quoteF ky) [58]
       have n1:¬9223372036854775807 < (sb (u++quoteF ky)).size+((⟨#[58]⟩:ByteArray)).size:=app_ok (a:=(u++quoteF ky)) (b:=[58]) (by first | omega | (simp only [List.length_append,List.length_cons,List.length_nil];omega))
       have e2:sb (u++quoteF ky++[58])++sb bd=sb ((u++quoteF ky++[58])++bd):=sb_app (u++quoteF ky++[58]) bd
       have n2:¬9223372036854775807 < (sb (u++quoteF ky++[58])).size+(sb bd).size:=app_ok (a:=(u++quoteF ky++[58])) (b:=bd) (by first | omega | (simp only [List.length_append,List.length_cons,List.length_nil];omega))
       obtain ⟨UN,hUN⟩:∃UN,UN=sb ((u++quoteF ky++[58])++bd):=⟨_,rfl⟩
       rw [←hUN]at e2
       have HUN:=Lib.hid hUN
       clear hUN hl7 hul hkl
       generalize sb (u++quoteF ky++[58])=S0 at*
       generalize sb (u++quoteF ky)=S1 at*
       generalize sb (quoteF ky)=S2 at*
       generalize sb bd=S3 at*
       generalize sb u=S4 at*
       go_wp2_with fail
       have HB0:=Lib.hid HX.out.1
       have HX0:=Lib.hid HX.out.2
       have hx0:=HX0.out.lt
       clear HX
       refine (HQC.out _).mono ?_
       rintro e w2 ⟨rfl,K2⟩
       have HB1:=Lib.hid (HB0.out.trans (K2.mono HB0.out.size))
       have HX1:=Lib.hid (show Row w2 w.heap.size 72 _ from HX0.out.below K2 HX0.out.lt)
       clear HB0 HX0
       clear HQC K2
       go_wp2_with fail
       refine (HPC.out w2 HB1.out).mono ?_
       rintro e w3 ⟨rfl,K3⟩
       have HB2:=Lib.hid (HB1.out.trans (K3.out.mono HB1.out.size))
       have HX2:=Lib.hid (show Row w3 w.heap.size 72 _ from HX1.out.below K3.out HX1.out.lt)
       clear HB1 HX1
       clear HPC K3
       go_wp2_with fail
       refine (HEC.out w3 HB2.out).mono ?_
       rintro e w4 ⟨rfl,K4⟩
       have HB3:=Lib.hid (HB2.out.trans (K4.out.mono HB2.out.size))
       have HX3:=Lib.hid (show Row w4 w.heap.size 72 _ from HX2.out.below K4.out HX2.out.lt)
       clear HB2 HX2
       clear HEC K4
       go_wp2_with fail
       go_roundg g
       case measure=> omega
       case rel=> exact ⟨_,k+(ll+1),1,congrArg Value.string HUN.out,rfl,by go_num,by omega,HN,Lib.hid ⟨HB3.out,HX3.out⟩⟩
      ·have hi0:(0:Int) < (i:Int):=by omega
       rw [if_neg hi]at HN hl7
       rw [if_pos rfl]at HN hl7
       simp only [List.length_append,List.length_cons,List.length_nil]at hl7
       have e0:sb u++(⟨#[44]⟩:ByteArray)=sb (u++[44]):=sb_app u [44]
       have n0:¬9223372036854775807 < (sb u).size+((⟨#[44]⟩:ByteArray)).size:=app_ok (a:=u) (b:=[44]) (by first | omega | (simp only [List.length_cons,List.length_nil];omega))
       have e1:sb (u++[44])++sb (quoteF ky)=sb ((u++[44])++quoteF ky):=sb_app (u++[44]) (quoteF ky)
       have n1:¬9223372036854775807 < (sb (u++[44])).size+(sb (quoteF ky)).size:=app_ok (a:=(u++[44])) (b:=(quoteF ky)) (by first | omega | (simp only [List.length_append,List.length_cons,List.length_nil];omega))
       have e2:sb ((u++[44])++quoteF ky)++(⟨#[58]⟩:ByteArray)=sb ((u++[44])++quoteF ky++[58]):=sb_app ((u++[44])++quoteF ky) [58]
       have n2:¬9223372036854775807 < (sb ((u++[44])++quoteF ky)).size+((⟨#[58]⟩:ByteArray)).size:=app_ok (a:=((u++[44])++quoteF ky)) (b:=[58]) (by first | omega | (simp only [List.length_append,List.length_cons,List.length_nil];omega))
       have e3:sb ((u++[44])++quoteF ky++[58])++sb bd=sb (((u++[44])++quoteF ky++[58])++bd):=sb_app ((u++[44])++quoteF ky++[58]) bd
       have n3:¬9223372036854775807 < (sb ((u++[44])++quoteF ky++[58])).size+(sb bd).size:=app_ok (a:=((u++[44])++quoteF ky++[58])) (b:=bd) (by first | omega | (simp only [List.length_append,List.length_cons,List.length_nil];omega))
       obtain ⟨UN,hUN⟩:∃UN,UN=sb (((u++[44])++quoteF ky++[58])++bd):=⟨_,rfl⟩
       rw [←hUN]at e3
       have HUN:=Lib.hid hUN
       clear hUN hl7 hul hkl
       generalize sb ((u++[44])++quoteF ky++[58])=S0 at*
       generalize sb ((u++[44])++quoteF ky)=S1 at*
       generalize sb (u++[44])=S2 at*
       generalize sb (quoteF ky)=S3 at*
       generalize sb bd=S4 at*
       generalize sb u=S5 at*
       go_wp2_with fail
       have HB0:=Lib.hid HX.out.1
       have HX0:=Lib.hid HX.out.2
       have hx0:=HX0.out.lt
       clear HX
       refine (HQC.out _).mono ?_
       rintro e w2 ⟨rfl,K2⟩
       have HB1:=Lib.hid (HB0.out.trans (K2.mono HB0.out.size))
       have HX1:=Lib.hid (show Row w2 w.heap.size 72 _ from HX0.out.below K2 HX0.out.lt)
       clear HB0 HX0
       clear HQC K2
       go_wp2_with fail
       refine (HPC.out w2 HB1.out).mono ?_
       rintro e w3 ⟨rfl,K3⟩
       have HB2:=Lib.hid (HB1.out.trans (K3.out.mono HB1.out.size))
       have HX2:=Lib.hid (show Row w3 w.heap.size 72 _ from HX1.out.below K3.out HX1.out.lt)
       clear HB1 HX1
       clear HPC K3
       go_wp2_with fail
       refine (HEC.out w3 HB2.out).mono ?_
       rintro e w4 ⟨rfl,K4⟩
       have HB3:=Lib.hid (HB2.out.trans (K4.out.mono HB2.out.size))
       have HX3:=Lib.hid (show Row w4 w.heap.size 72 _ from HX2.out.below K4.out HX2.out.lt)
       clear HB2 HX2
       clear HEC K4
       go_wp2_with fail
       go_roundg g
       case measure=> omega
       case rel=> exact ⟨_,k+(ll+1),i+1,congrArg Value.string HUN.out,rfl,by go_num,by omega,HN,Lib.hid ⟨HB3.out,HX3.out⟩⟩
  ·have hkd:v.kind=0∨v.kind=1∨v.kind=2∨v.kind=3∨v.kind=4:=by
    have h2:=h1.own.2.2
    have h3:¬(v.kind=5∨v.kind=6):=fun h=> hg (decide_eq_true h)
    omega
   have HQC:=Lib.hid (fun W=> jt_rquote W v.text htx)
   clear ih h1 hdr hL hs hv hg htl
   obtain ⟨kd,key,tx,z⟩:=v
   dsimp only at c0 c1 c2 c3 hkd htx HQC
   rcases hkd with rfl | rfl | rfl | rfl | rfl
   ·rw [show body (⟨0,key,tx,z⟩:V) t=[110,117,108,108]from rfl]
    have HB0:=Lib.hid (below_alloc' w (.cells #[.int .i64 0, .string (sb key), .string (sb tx), .int .i64 z] 72))
    generalize sb key=KEY at*
    generalize sb tx=TX at*
    go_enter Tryz.func78,Tryz.ntmps78
    go_wp2_with fail
    go_ret
    exact ⟨rfl,HB0⟩
   ·rw [show body (⟨1,key,tx,z⟩:V) t=[116,114,117,101]from rfl]
    have HB0:=Lib.hid (below_alloc' w (.cells #[.int .i64 1, .string (sb key), .string (sb tx), .int .i64 z] 72))
    generalize sb key=KEY at*
    generalize sb tx=TX at*
    go_enter Tryz.func78,Tryz.ntmps78
    go_wp2_with fail
    go_ret
    exact ⟨rfl,HB0⟩
   ·rw [show body (⟨2,key,tx,z⟩:V) t=[102,97,108,115,101]from rfl]
    have HB0:=Lib.hid (below_alloc' w (.cells #[.int .i64 2, .string (sb key), .string (sb tx), .int .i64 z] 72))
    generalize sb key=KEY at*
    generalize sb tx=TX at*
    go_enter Tryz.func78,Tryz.ntmps78
    go_wp2_with fail
    go_ret
    exact ⟨rfl,HB0⟩
   ·rw [show body (⟨3,key,tx,z⟩:V) t=tx from rfl]
    have HB0:=Lib.hid (below_alloc' w (.cells #[.int .i64 3, .string (sb key), .string (sb tx), .int .i64 z] 72))
    generalize sb key=KEY at*
    generalize hTT:sb tx=TX at*
    go_enter Tryz.func78,Tryz.ntmps78
    go_wp2_with fail
    go_ret
    exact ⟨rfl,HB0⟩
   ·rw [show body (⟨4,key,tx,z⟩:V) t=(quoteF tx)from rfl]
    have HB0:=Lib.hid (below_alloc' w (.cells #[.int .i64 4, .string (sb key), .string (sb tx), .int .i64 z] 72))
    generalize hqt:sb (quoteF tx)=QT at*
    clear hqt
    generalize sb key=KEY at*
    generalize sb tx=TX at*
    go_enter Tryz.func78,Tryz.ntmps78
    go_wp2_with fail
    refine (HQC.out _).mono ?_
    rintro e w2 ⟨rfl,K2⟩
    have HB2:=Lib.hid (HB0.out.trans (K2.mono HB0.out.size))
    clear K2 HQC HB0
    go_wp2_with fail
    go_ret
    exact ⟨rfl,HB2⟩
end Go.Proofs.YtgmangikcfakgaaGreatDoor
namespace Go.Proofs.YtgmangikcfakgaaGreatDoor
open Go.RowKit Sh Jt Js Jo
set_option maxRecDepth 100000
def PForm (w:World) (T:List UInt8) (r:Bool) (e:Ending) (w':World):Prop:=∃A c,e= .returned (.tuple #[.slice A T.length c, .bool r])∧Hid (BytesAt w' A T.length c T∧Below w.heap.size w w')
theorem mt_conv_strR (w:World) (s:List UInt8):∃c w',(convert 9 22 (.string (sb s))).run Tryz.prog w= .ok (.slice (some ⟨w.heap.size,0,none⟩) s.length c) w'∧BytesAt w' (some ⟨w.heap.size,0,none⟩) s.length c s∧Below w.heap.size w w':=by
 have h:=Lib.run_convert_string_bytes (P:=Tryz.prog) w 9 22 5 ⟨s.toArray⟩ Tryz.underlying9 Tryz.underlying22 Tryz.underlying5
 have e:(⟨s.toArray⟩:ByteArray).size=s.length:=rfl
 rw [e]at h
 refine ⟨_,_,h,⟨rfl, ?_,fun hn=> ⟨w.heap.size,0,rfl,by rw [Lib.bytesWorld_size];omega,fun j v hj=> ?_⟩⟩,⟨rfl,rfl,rfl,by rw [Lib.bytesWorld_size];omega,fun k hk=> Lib.bytesWorld_at_old w _ _ k hk⟩⟩
 ·have:=grownCap_ge w s.length 0 5
  exact this
 ·have hjl:j < s.length:=by simpa using (List.getElem?_eq_some_iff.1 hj).1
  rw [Nat.zero_add,Lib.bytesWorld_cell w 5 ⟨s.toArray⟩ j (by rw [e];exact hjl),←hj]
  simp [hjl,v8,n8,List.getD]
set_option maxHeartbeats 4000000 in
theorem js_rprint (w:World) (A:Option Addr) (n c:Nat) (L:List V) (hL:ValsAt w A n c L) (hs:Short 1000000000 L) {t:List UInt8} (hr:Js.Row L t) (ht:t.length≤1000000000000):
  Calls Tryz.prog 44 #[.slice A n c] w (PForm w t true):=by
 have hlen:=hL.len
 have h5:=hr.1
 have HR:=Lib.hid (js_rRight w A n c L hL (by omega) hs)
 rw [(prog_is L).2 ⟨t,hr⟩]at HR
 obtain ⟨v,r,t1,rfl,hone,rfl⟩:=row_oneS hr
 have HP:=Lib.hid (fun W (q:Below w.heap.size w W)=> js_rprintV 50 0 0 c false v r [] t1 W A (v::r) rfl hone (by rw [List.append_nil];rfl) (Nat.le_trans (body_has hone) ht) (by rw [hlen];exact hL.below q) (by omega) hs)
 rw [hlen]at HP
 clear hL hs hr hone h5 hlen
 generalize body v t1=T at*
 go_enter Tryz.func44,Tryz.ntmps44
 go_wp2_with fail
 refine HR.out.mono ?_
 rintro e w2 ⟨rfl,K2⟩
 clear HR
 go_wp2_with fail
 refine (HP.out w2 K2.out).mono ?_
 rintro e w3 ⟨rfl,K3⟩
 have HB:=Lib.hid (K2.out.trans (K3.out.mono K2.out.size))
 obtain ⟨k4,w4,hv4,hb4,kb4⟩:=mt_conv_strR w3 T
 have HX:=Lib.hid (And.intro hb4 (HB.out.trans (kb4.mono HB.out.size)))
 clear HP K2 K3 hb4 kb4 HB
 obtain ⟨tl,htl⟩:∃tl,tl=T.length:=⟨_,rfl⟩
 rw [←htl]at hv4 HX
 have HTL:=Lib.hid htl
 clear htl
 generalize sb T=ST at*
 go_wp2_with fail
 go_ret2
 exact ⟨some ⟨w3.heap.size,0,none⟩,k4,by rw [←HTL.out];rfl,Lib.hid ⟨by rw [←HTL.out];exact HX.out.1,HX.out.2⟩⟩
end Go.Proofs.YtgmangikcfakgaaGreatDoor
namespace Go.Proofs.YtgmangikcfakgaaGreatDoor
open Go.RowKit Sh Jt Js Jo
set_option maxRecDepth 100000
namespace Jo
theorem setA_lenC (L M:List V) (key:List UInt8):(setA L key M).length≤L.length+M.length:=by
 unfold setA fineF
 split
 ·split
  ·unfold setF
   cases getA L 0 key with
   | none=>
    rw [List.length_append,bump_len,named_len]
    omega
   | some p=>
    rw [List.length_append,List.length_append,named_len,List.length_take,List.length_drop]
    omega
  ·exact Nat.zero_le _
 ·exact Nat.zero_le _
theorem rowH_len (h:Hist):(rowH h).length≤h.rest.length+2:=by
 have h1:(if h.who=[] then h.rest else setA h.rest byK [⟨4,[],h.who,0⟩]).length≤h.rest.length+1:=by
  split
  ·omega
  ·exact setA_lenC _ _ _
 unfold rowH
 dsimp only
 split
 ·have:=setA_lenC (if h.who=[] then h.rest else setA h.rest byK [⟨4,[],h.who,0⟩]) [⟨1,[],[],0⟩] emptyK
  rw [List.length_singleton]at this
  omega
 ·omega
theorem rowsH_len:∀L:List Hist,20*(L.map rowH).flatten.length≤sumH L+40*L.length
 | []=> Nat.zero_le _
 | h::r=> by
  have ih:=rowsH_len r
  have:=rowH_len h
  have e:sumH (h::r)=(h.who.length+20*h.rest.length)+sumH r:=by
   unfold sumH
   rw [List.map_cons,List.sum_cons]
  rw [List.map_cons,List.flatten_cons,List.length_append,List.length_cons]
  omega
theorem few_walk {c:Cfg} (h:fewC c=true):FitC c∧c.rest.length≤5000∧(∀h∈c.hist,h.who.length≤250000∧h.rest.length≤5000)∧(c.hist.map rowH).flatten.length≤4000:=by
 obtain ⟨_,h2,_,h4,h5⟩:=fewC_is h
 refine ⟨few_fitC h,by omega,fun x hx=> ?_, ?_⟩
 ·obtain ⟨a,_,b⟩:=h5 x hx
  exact ⟨by omega,by omega⟩
 ·have:=rowsH_len c.hist
  unfold fewC at h
  rw [Bool.and_eq_true,Bool.and_eq_true,Bool.and_eq_true,Bool.and_eq_true,decide_eq_true_eq,decide_eq_true_eq,decide_eq_true_eq]at h
  have:=h.2.1.1.2
  omega
end Jo
set_option maxHeartbeats 4000000 in
theorem cf_rprintY (w:World) (c:Cfg) (P:List Pe) (A1:Option Addr) (n1 c1:Nat) (A2:Option Addr) (n2 c2:Nat) (A3:Option Addr) (n3 c3:Nat) (hC:ConfIn w c P A1 n1 c1 A2 n2 c2 A3 n3 c3) (hF:FitC c) (hn3:n3≤5000)
  (hO:∀h∈c.hist,h.who.length≤250000∧h.rest.length≤5000) (hsum:(c.hist.map rowH).flatten.length≤4000) {t:List UInt8} (hr:Js.Row (rowC c) t) (hw:Short 1000000000 (rowC c)) (ht:t.length≤1000000000000):
  Calls Tryz.prog 14 #[.agg #[.slice A1 n1 c1, .slice A2 n2 c2, .slice A3 n3 c3]] w (PForm w t true):=by
 have hne:rowC c≠[]:=fun e=> by
  have:=right_pos ((prog_is _).2 ⟨t,hr⟩)
  rw [e]at this
  exact absurd this (Nat.lt_irrefl _)
 have hok:okC c=true:=by
  rcases row_okC c with e | ⟨h,_⟩
  ·exact absurd e hne
  ·exact h
 obtain ⟨p1,p2,p3,p4,p5⟩:=ok_parts hok
 have hl1:=hC.ids.len
 have hl2:=hC.hist.len
 have hh:=congrArg List.length hC.same
 unfold histsOf at hh
 rw [List.length_map]at hh
 have hall:rowC c=sortA (bodyC c):=by
  unfold rowC
  rw [if_pos hok]
 have HRI:=Lib.hid (fun W (q:Below w.heap.size w W)=> cf_rright W c P A1 n1 c1 A2 n2 c2 A3 n3 c3 (hC.below q) hF (by omega) hn3 hO hsum)
 rw [rightC_yes hne]at HRI
 have HAL:=Lib.hid (fun W (q:Below w.heap.size w W)=> own_any (f:=45) (args:=#[.agg #[.slice A1 n1 c1, .slice A2 n2 c2, .slice A3 n3 c3]]) (W:=W) (L:=rowC c) rfl (by rw [hall];exact cf_rall W c P A1 n1 c1 A2 n2 c2 A3 n3 c3 (hC.below q) hF (by omega) (by omega) hn3 (fun h hm=> ⟨(okH_pos (p5 h hm)).1,(hO h hm).1,(hO h hm).2,(okH_pos (p5 h hm)).2⟩) hsum))
 have HPR:=Lib.hid (fun W A n k (h:ValsAt W A n k (rowC c))=> js_rprint W A n k (rowC c) h hw hr ht)
 have HB:=Lib.hid (below_alloc w (.cells #[.slice A1 n1 c1, .slice A2 n2 c2, .slice A3 n3 c3] 28))
 have HMQ:=Lib.hid (show Row (w.alloc (.cells #[.slice A1 n1 c1, .slice A2 n2 c2, .slice A3 n3 c3] 28)) w.heap.size 28 [.slice A1 n1 c1, .slice A2 n2 c2, .slice A3 n3 c3]from Row.new _ _ _)
 clear hC hF hO hsum hr hw ht hne hok p1 p2 p3 p4 p5 hall hh
 go_enter Tryz.func14,Tryz.ntmps14
 go_upto_region 1 with fail
 generalize w.alloc (.cells #[.slice A1 n1 c1, .slice A2 n2 c2, .slice A3 n3 c3] 28)=w0 at*
 go_wp2_with ((with_reducible refine load_all ?_ 28 (.tmp 1) ?_ w.heap.size 0 [.slice A1 n1 c1, .slice A2 n2 c2, .slice A3 n3 c3] #[.slice A1 n1 c1, .slice A2 n2 c2, .slice A3 n3 c3] ?_ _ ?_ Tryz.underlying28 ?_ ?_ ?_ ?_);rfl;rfl;go_must (rfl;exact rangeAt_row HMQ.out;rfl;exact cf_sizeC;rfl))
 refine (HRI.out w0 HB.out).mono ?_
 rintro e w1 ⟨rfl,K1⟩
 replace HB:=Lib.hid (HB.out.trans (K1.out.mono HB.out.size))
 replace HMQ:=Lib.hid (HMQ.out.below K1.out HMQ.out.lt)
 clear HRI K1
 go_wp2_with ((with_reducible refine load_all ?_ 28 (.tmp 1) ?_ w.heap.size 0 [.slice A1 n1 c1, .slice A2 n2 c2, .slice A3 n3 c3] #[.slice A1 n1 c1, .slice A2 n2 c2, .slice A3 n3 c3] ?_ _ ?_ Tryz.underlying28 ?_ ?_ ?_ ?_);rfl;rfl;go_must (rfl;exact rangeAt_row HMQ.out;rfl;exact cf_sizeC;rfl))
 refine (HAL.out w1 HB.out).mono ?_
 rintro e w2 ⟨A4,k4,rfl,K2⟩
 replace HB:=Lib.hid (HB.out.trans (K2.out.2.2.mono HB.out.size))
 have HPX:=Lib.hid (HPR.out w2 A4 _ k4 K2.out.2.1)
 clear HAL HPR K2 HMQ
 generalize (rowC c).length=rl at*
 go_wp2_with fail
 refine HPX.out.mono ?_
 rintro e w3 ⟨A5,k5,rfl,K3⟩
 have HX:=Lib.hid (And.intro K3.out.1 (HB.out.trans (K3.out.2.mono HB.out.size)))
 clear HPX K3 HB
 go_wp2_with fail
 go_ret2
 exact ⟨_,_,rfl,HX⟩
set_option maxHeartbeats 4000000 in
theorem cf_rprintN (w:World) (c:Cfg) (P:List Pe) (A1:Option Addr) (n1 c1:Nat) (A2:Option Addr) (n2 c2:Nat) (A3:Option Addr) (n3 c3:Nat) (hC:ConfIn w c P A1 n1 c1 A2 n2 c2 A3 n3 c3) (hF:FitC c) (hn2:n2≤140737488355328) (hn3:n3≤5000)
  (hO:∀h∈c.hist,h.who.length≤250000∧h.rest.length≤5000) (hsum:(c.hist.map rowH).flatten.length≤4000) (hr:rowC c=[]):
  Calls Tryz.prog 14 #[.agg #[.slice A1 n1 c1, .slice A2 n2 c2, .slice A3 n3 c3]] w (PForm w [] false):=by
 have HRI:=Lib.hid (fun W (q:Below w.heap.size w W)=> cf_rright W c P A1 n1 c1 A2 n2 c2 A3 n3 c3 (hC.below q) hF hn2 hn3 hO hsum)
 rw [rightC_no hr]at HRI
 have HB:=Lib.hid (below_alloc w (.cells #[.slice A1 n1 c1, .slice A2 n2 c2, .slice A3 n3 c3] 28))
 have HMQ:=Lib.hid (show Row (w.alloc (.cells #[.slice A1 n1 c1, .slice A2 n2 c2, .slice A3 n3 c3] 28)) w.heap.size 28 [.slice A1 n1 c1, .slice A2 n2 c2, .slice A3 n3 c3]from Row.new _ _ _)
 clear hC hF hO hsum hr
 go_enter Tryz.func14,Tryz.ntmps14
 go_upto_region 1 with fail
 generalize w.alloc (.cells #[.slice A1 n1 c1, .slice A2 n2 c2, .slice A3 n3 c3] 28)=w0 at*
 go_wp2_with ((with_reducible refine load_all ?_ 28 (.tmp 1) ?_ w.heap.size 0 [.slice A1 n1 c1, .slice A2 n2 c2, .slice A3 n3 c3] #[.slice A1 n1 c1, .slice A2 n2 c2, .slice A3 n3 c3] ?_ _ ?_ Tryz.underlying28 ?_ ?_ ?_ ?_);rfl;rfl;go_must (rfl;exact rangeAt_row HMQ.out;rfl;exact cf_sizeC;rfl))
 refine (HRI.out w0 HB.out).mono ?_
 rintro e w1 ⟨rfl,K1⟩
 replace HB:=Lib.hid (HB.out.trans (K1.out.mono HB.out.size))
 clear HRI K1 HMQ
 go_wp2_with fail
 go_ret2
 exact ⟨none,0,rfl,Lib.hid ⟨⟨rfl,Nat.le_refl _,fun h=> absurd h (by decide)⟩,HB.out⟩⟩
end Go.Proofs.YtgmangikcfakgaaGreatDoor
