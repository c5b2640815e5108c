import Derived.Test.YtmkjcleecjjchaaGreatDoorP6
import Derived.Test.YtmkjcleecjjchaaGreatDoorP42
import Derived.Test.YtmkjcleecjjchaaGreatDoorP13
import Derived.Test.YtmkjcleecjjchaaGreatDoorP21
import Derived.Test.YtmkjcleecjjchaaGreatDoorP45
import Derived.Test.YtmkjcleecjjchaaGreatDoorP31
namespace Go.Proofs.YtmkjcleecjjchaaGreatDoor
open Go.RowKit Sh Jt Js
theorem Js.PrS.len {L x:List V} {d:Nat} {o:Bool} {T:List UInt8} {i k g:Nat} {u:List UInt8} (h:PrS L x d o T i k g u):u.length≤T.length:=by
 obtain ⟨ks,l,t,_,_,_,h4,h5⟩:=h
 by_cases hi:i=0
 ·rw [(h4 hi).1]
  exact Nat.zero_le _
 ·rw [h5 (by omega),List.length_append]
  omega
def RPrintP (m:Nat):Prop:=∀(d a c:Nat) (ob:Bool) (v:V) (r x:List V) (t:List UInt8) (w:World) (A:Option Addr) (L:List V),d+m=50→Js.One d ob v r t→L.drop a=v::(r++x)→t.length≤1000000000000→ValsAt w A L.length c L→L.length≤250000→Short 1000000000 L→
 Calls Tryz.prog 74 #[.slice A L.length c, .int .i64 (a:Int)] w fun e w'=> e= .returned (.string (sb (body v t)))∧Hid (Below w.heap.size w w')
theorem js_boxV (w:World) (k n:Int) (s1 s2:ByteArray):Row (w.alloc (.cells #[.int .i64 k, .string s1, .string s2, .int .i64 n] 61)) w.heap.size 61 [.int .i64 k, .string s1, .string s2, .int .i64 n]:=Row.new w 61 [.int .i64 k, .string s1, .string s2, .int .i64 n]
theorem row_03 {w:World} {b:Nat} {k n:Int} {s1 s2:ByteArray} (h:Row w b 61 [.int .i64 k, .string s1, .string s2, .int .i64 n]):w.cell? ⟨b,0,none⟩=some (.int .i64 k)∧w.cell? ⟨b,3,none⟩=some (.int .i64 n):=⟨h.cell rfl,h.cell rfl⟩
set_option maxRecDepth 100000 in
set_option maxHeartbeats 16000000 in
theorem js_rprintV:∀m,RPrintP m:=by
 intro m
 induction m with
 | zero=>
  intro d a c ob v r x t w A L hd h1
  have:=h1.deep
  omega
 | succ m ih=>
  intro d a c ob v r x t w A L hd h1 hdr htl hL hn hs
  obtain ⟨ha,hv⟩:=at_drop hdr
  obtain ⟨b,o,rfl,hb,_⟩:=hL.at_ (by omega)
  obtain ⟨c0,c1,c2,c3⟩:=hL.cells ha
  rw [hv]at c0 c1 c2 c3
  have htx:v.text.length≤1000000000:=by rw [←hv];exact (hs _ (List.getElem_mem ha)).2
  have ha9:(a:Int) < (L.length:Int):=by omega
  by_cases hg:grp v=true
  ·obtain ⟨cn,hcn⟩:∃cn:Nat,v.count=(cn:Int):=⟨v.count.toNat,by have:=own_count h1.own;omega⟩
   have HPS:=Lib.hid (PrS.start h1 hdr hcn)
   have hcl:cn≤250000:=by
    obtain ⟨e1,e2⟩:=KidS.count h1
    have:=congrArg List.length hdr
    rw [List.length_drop,List.length_cons,List.length_append]at this
    omega
   have HIH:=Lib.hid (fun W (q:Below w.heap.size w W) (k:Nat) (v1:V) (l1 y:List V) (t1:List UInt8) (ho:Js.One (d+1) (isObj v) v1 l1 t1) (hk:L.drop k=v1::(l1++y)) (h3:t1.length≤t.length)=> ih (d+1) k c (isObj v) v1 l1 y t1 W (some ⟨b,o,none⟩) L (by omega) ho hk (by omega) (hL.below q) hn hs)
   have HE:=Lib.hid (fun W (q:Below w.heap.size w W) (k e:Nat) (hk:k < L.length) (h:endW (L.drop k) 1=some e)=> js_rend W (some ⟨b,o,none⟩) c L (hL.below q) hn k e hk h)
   have HKC:=Lib.hid (fun W (q:Below w.heap.size w W) (k:Nat) (hk:k < L.length)=> ((hL.below q).cells hk).2.1)
   have HKL:=Lib.hid (fun (k:Nat) (hk:k < L.length)=> And.intro (show (k:Int) < (L.length:Int)by omega) (hs _ (List.getElem_mem hk)).1)
   rw [hcn]at c3
   have hkd:v.kind=5∨v.kind=6:=of_decide_eq_true hg
   have HOB:=Lib.hid (show isObj v=decide (v.kind=6)from rfl)
   clear ih h1 hdr hL hs hv hg hcn htx
   obtain ⟨BD,hBD⟩:∃BD,BD=body v t:=⟨_,rfl⟩
   rw [←hBD]
   have HBDY:=Lib.hid hBD
   clear hBD
   obtain ⟨kd,key,tx,z⟩:=v
   dsimp only at c0 c1 c2 c3 hkd
   rcases hkd with rfl | rfl
   ·have hz:True:=trivial
    have hoo:isObj (⟨5,key,tx,z⟩:V)=false:=rfl
    rw [hoo]at HPS HIH
    clear hoo HOB
    have HBD:Hid (BD=91::(t++[93])):=Lib.hid HBDY.out
    clear HBDY
    go_enter Tryz.func74,Tryz.ntmps74
    go_upto_region 2 with fail
    have HBX:=Lib.hid (And.intro (below_alloc' w (.cells #[.int .i64 5, .string (sb key), .string (sb tx), .int .i64 (cn:Int)] 61)) (js_boxV w 5 (cn:Int) (sb key) (sb tx)))
    generalize w.alloc (.cells #[.int .i64 5, .string (sb key), .string (sb tx), .int .i64 (cn:Int)] 61)=w0 at*
    generalize sb key=KEY at*
    generalize sb tx=TX at*
    obtain ⟨x0,x3⟩:=row_03 HBX.out.2
    clear c0 c1 c2 c3
    go_wp2_with fail
    go_loopg [6,7,8] cn (fun g v6 v7 v8 wx=> ∃(u:List UInt8) (k i:Nat),v6= .string (sb u)∧v7= .int .i64 (k:Int)∧v8= .int .i64 (i:Int)∧i+g=cn∧Hid (PrS L x (d+1) false t i k g u)∧Hid (Below w.heap.size w wx∧Row wx w.heap.size 61 [.int .i64 5, .string KEY, .string TX, .int .i64 (cn:Int)]))
    case atStart=> exact ⟨[],a+1,0,rfl,by go_num,rfl,by omega,HPS,HBX⟩
    case round=>
     clear HPS HBX x0 x3
     obtain ⟨u,k,i,rfl,rfl,rfl,hig,HP,HX⟩:=hrel
     obtain ⟨x0,x3⟩:=row_03 HX.out.2
     have hul:=HP.out.len
     cases gk with
     | zero=>
      obtain rfl:i=cn:=by omega
      have hge:¬(i:Int) < (i:Int):=by omega
      obtain rfl:=HP.out.done
      have e1:(⟨#[91]⟩:ByteArray)++sb u=sb (91::u):=sb_app [91] u
      have n1:¬9223372036854775807 < (⟨#[91]⟩:ByteArray).size+(sb u).size:=app_ok (a:=[91]) (by rw [List.length_singleton];omega)
      have e2:sb (91::u)++(⟨#[93]⟩:ByteArray)=sb (91::(u++[93])):=sb_app (91::u) [93]
      have n2:¬9223372036854775807 < (sb (91::u)).size+(⟨#[93]⟩:ByteArray).size:=app_ok (b:=[93]) (by rw [List.length_cons,List.length_singleton];omega)
      have hB:=congrArg sb HBD.out
      have HBD2:=Lib.hid hB
      clear HP HBD HIH HE HKC HKL hB hul
      generalize sb (91::(u++[93]))=U2 at*
      generalize sb (91::u)=U1 at*
      generalize sb u=U at*
      go_wp2_with fail
      go_ret
      exact ⟨by rw [HBD2.out];rfl,Lib.hid HX.out.1⟩
     | succ g=>
      have hlt:(i:Int) < (cn:Int):=by omega
      obtain ⟨v1,l1,t1,y,q1,q2,q3,q4,q5,q6,q7⟩:=HP.out.next
      obtain ⟨_,hkv⟩:=at_drop q2
      obtain ⟨hk9,hkl⟩:=HKL.out k q3
      have zk:=HKC.out wr HX.out.1 k q3
      rw [hkv]at zk hkl
      have HPC:=Lib.hid (fun W q=> HIH.out W q k v1 l1 y t1 q1 q2 q4)
      have HEC:=Lib.hid (fun W q=> HE.out W q k (l1.length+1) q3 q5)
      have HQC:=Lib.hid (fun W=> jt_rquote W v1.key hkl)
      have HN:=Lib.hid q6
      have hl7:=q7
      generalize hbd:body v1 t1=bd at*
      clear hbd
      clear HP HIH HE HKC HKL q1 q2 q3 q4 q5 q6 q7 HBD hkv
      generalize l1.length=ll at*
      generalize v1.key=ky at*
      unfold named58 comma at HN hl7
      by_cases hi:i=0
      ·subst hi
       rw [if_pos rfl]at HN hl7
       rw [if_neg (by decide)]at HN hl7
       simp only [List.length_append]at hl7
       have e0:sb u++sb bd=sb (u++bd):=sb_app u bd
       have n0:¬9223372036854775807 < (sb u).size+(sb bd).size:=app_ok (a:=u) (b:=bd) (by first | omega | (simp only [List.length_append,List.length_cons,List.length_nil];omega))
       obtain ⟨UN,hUN⟩:∃UN,UN=sb (u++bd):=⟨_,rfl⟩
       rw [←hUN]at e0
       have HUN:=Lib.hid hUN
       clear hUN hl7 hul hkl
       generalize sb bd=S0 at*
       generalize sb u=S1 at*
       go_wp2_with fail
       have HB0:=Lib.hid HX.out.1
       have HX0:=Lib.hid HX.out.2
       have hx0:=HX0.out.lt
       clear HX
       refine (HPC.out wr HB0.out).mono ?_
       rintro e w3 ⟨rfl,K3⟩
       have HB1:=Lib.hid (HB0.out.trans (K3.out.mono HB0.out.size))
       have HX1:=Lib.hid (show Row w3 w.heap.size 61 _ from HX0.out.below K3.out HX0.out.lt)
       clear HB0 HX0
       clear HPC K3 HQC
       go_wp2_with fail
       refine (HEC.out w3 HB1.out).mono ?_
       rintro e w4 ⟨rfl,K4⟩
       have HB2:=Lib.hid (HB1.out.trans (K4.out.mono HB1.out.size))
       have HX2:=Lib.hid (show Row w4 w.heap.size 61 _ from HX1.out.below K4.out HX1.out.lt)
       clear HB1 HX1
       clear HEC K4
       go_wp2_with fail
       go_roundg g
       case measure=> omega
       case rel=> exact ⟨_,k+(ll+1),1,congrArg Value.string HUN.out,rfl,by go_num,by omega,HN,Lib.hid ⟨HB2.out,HX2.out⟩⟩
      ·have hi0:(0:Int) < (i:Int):=by omega
       rw [if_neg hi]at HN hl7
       rw [if_neg (by decide)]at HN hl7
       simp only [List.length_append,List.length_cons,List.length_nil]at hl7
       have e0:sb u++(⟨#[44]⟩:ByteArray)=sb (u++[44]):=sb_app u [44]
       have n0:¬9223372036854775807 < (sb u).size+((⟨#[44]⟩:ByteArray)).size:=app_ok (a:=u) (b:=[44]) (by first | omega | (simp only [List.length_cons,List.length_nil];omega))
       have e1:sb (u++[44])++sb bd=sb ((u++[44])++bd):=sb_app (u++[44]) bd
       have n1:¬9223372036854775807 < (sb (u++[44])).size+(sb bd).size:=app_ok (a:=(u++[44])) (b:=bd) (by first | omega | (simp only [List.length_append,List.length_cons,List.length_nil];omega))
       obtain ⟨UN,hUN⟩:∃UN,UN=sb ((u++[44])++bd):=⟨_,rfl⟩
       rw [←hUN]at e1
       have HUN:=Lib.hid hUN
       clear hUN hl7 hul hkl
       generalize sb (u++[44])=S0 at*
       generalize sb bd=S1 at*
       generalize sb u=S2 at*
       go_wp2_with fail
       have HB0:=Lib.hid HX.out.1
       have HX0:=Lib.hid HX.out.2
       have hx0:=HX0.out.lt
       clear HX
       refine (HPC.out wr HB0.out).mono ?_
       rintro e w3 ⟨rfl,K3⟩
       have HB1:=Lib.hid (HB0.out.trans (K3.out.mono HB0.out.size))
       have HX1:=Lib.hid (show Row w3 w.heap.size 61 _ from HX0.out.below K3.out HX0.out.lt)
       clear HB0 HX0
       clear HPC K3 HQC
       go_wp2_with fail
       refine (HEC.out w3 HB1.out).mono ?_
       rintro e w4 ⟨rfl,K4⟩
       have HB2:=Lib.hid (HB1.out.trans (K4.out.mono HB1.out.size))
       have HX2:=Lib.hid (show Row w4 w.heap.size 61 _ from HX1.out.below K4.out HX1.out.lt)
       clear HB1 HX1
       clear HEC K4
       go_wp2_with fail
       go_roundg g
       case measure=> omega
       case rel=> exact ⟨_,k+(ll+1),i+1,congrArg Value.string HUN.out,rfl,by go_num,by omega,HN,Lib.hid ⟨HB2.out,HX2.out⟩⟩
   ·have hz:True:=trivial
    have hoo:isObj (⟨6,key,tx,z⟩:V)=true:=rfl
    rw [hoo]at HPS HIH
    clear hoo HOB
    have HBD:Hid (BD=123::(t++[125])):=Lib.hid HBDY.out
    clear HBDY
    go_enter Tryz.func74,Tryz.ntmps74
    go_upto_region 2 with fail
    have HBX:=Lib.hid (And.intro (below_alloc' w (.cells #[.int .i64 6, .string (sb key), .string (sb tx), .int .i64 (cn:Int)] 61)) (js_boxV w 6 (cn:Int) (sb key) (sb tx)))
    generalize w.alloc (.cells #[.int .i64 6, .string (sb key), .string (sb tx), .int .i64 (cn:Int)] 61)=w0 at*
    generalize sb key=KEY at*
    generalize sb tx=TX at*
    obtain ⟨x0,x3⟩:=row_03 HBX.out.2
    clear c0 c1 c2 c3
    go_wp2_with fail
    go_loopg [6,7,8] cn (fun g v6 v7 v8 wx=> ∃(u:List UInt8) (k i:Nat),v6= .string (sb u)∧v7= .int .i64 (k:Int)∧v8= .int .i64 (i:Int)∧i+g=cn∧Hid (PrS L x (d+1) true t i k g u)∧Hid (Below w.heap.size w wx∧Row wx w.heap.size 61 [.int .i64 6, .string KEY, .string TX, .int .i64 (cn:Int)]))
    case atStart=> exact ⟨[],a+1,0,rfl,by go_num,rfl,by omega,HPS,HBX⟩
    case round=>
     clear HPS HBX x0 x3
     obtain ⟨u,k,i,rfl,rfl,rfl,hig,HP,HX⟩:=hrel
     obtain ⟨x0,x3⟩:=row_03 HX.out.2
     have hul:=HP.out.len
     cases gk with
     | zero=>
      obtain rfl:i=cn:=by omega
      have hge:¬(i:Int) < (i:Int):=by omega
      obtain rfl:=HP.out.done
      have e1:(⟨#[123]⟩:ByteArray)++sb u=sb (123::u):=sb_app [123] u
      have n1:¬9223372036854775807 < (⟨#[123]⟩:ByteArray).size+(sb u).size:=app_ok (a:=[123]) (by rw [List.length_singleton];omega)
      have e2:sb (123::u)++(⟨#[125]⟩:ByteArray)=sb (123::(u++[125])):=sb_app (123::u) [125]
      have n2:¬9223372036854775807 < (sb (123::u)).size+(⟨#[125]⟩:ByteArray).size:=app_ok (b:=[125]) (by rw [List.length_cons,List.length_singleton];omega)
      have hB:=congrArg sb HBD.out
      have HBD2:=Lib.hid hB
      clear HP HBD HIH HE HKC HKL hB hul
      generalize sb (123::(u++[125]))=U2 at*
      generalize sb (123::u)=U1 at*
      generalize sb u=U at*
      go_wp2_with fail
      go_ret
      exact ⟨by rw [HBD2.out];rfl,Lib.hid HX.out.1⟩
     | succ g=>
      have hlt:(i:Int) < (cn:Int):=by omega
      obtain ⟨v1,l1,t1,y,q1,q2,q3,q4,q5,q6,q7⟩:=HP.out.next
      obtain ⟨_,hkv⟩:=at_drop q2
      obtain ⟨hk9,hkl⟩:=HKL.out k q3
      have zk:=HKC.out wr HX.out.1 k q3
      rw [hkv]at zk hkl
      have HPC:=Lib.hid (fun W q=> HIH.out W q k v1 l1 y t1 q1 q2 q4)
      have HEC:=Lib.hid (fun W q=> HE.out W q k (l1.length+1) q3 q5)
      have HQC:=Lib.hid (fun W=> jt_rquote W v1.key hkl)
      have HN:=Lib.hid q6
      have hl7:=q7
      generalize hbd:body v1 t1=bd at*
      clear hbd
      clear HP HIH HE HKC HKL q1 q2 q3 q4 q5 q6 q7 HBD hkv
      generalize l1.length=ll at*
      generalize v1.key=ky at*
      unfold named58 comma at HN hl7
      by_cases hi:i=0
      ·subst hi
       rw [if_pos rfl]at HN hl7
       rw [if_pos rfl]at HN hl7
       simp only [List.length_append,List.length_cons,List.length_nil]at hl7
       have e0:sb u++sb (quoteF ky)=sb (u++quoteF ky):=sb_app u (quoteF ky)
       have n0:¬9223372036854775807 < (sb u).size+(sb (quoteF ky)).size:=app_ok (a:=u) (b:=(quoteF ky)) (by first | omega | (simp only [List.length_append,List.length_cons,List.length_nil];omega))
       have e1:sb (u++quoteF ky)++(⟨#[58]⟩:ByteArray)=sb (u++quoteF ky++[58]):=sb_app (u++quoteF ky) [58]
       have n1:¬9223372036854775807 < (sb (u++quoteF ky)).size+((⟨#[58]⟩:ByteArray)).size:=app_ok (a:=(u++quoteF ky)) (b:=[58]) (by first | omega | (simp only [List.length_append,List.length_cons,List.length_nil];omega))
       have e2:sb (u++quoteF ky++[58])++sb bd=sb ((u++quoteF ky++[58])++bd):=sb_app (u++quoteF ky++[58]) bd
       have n2:¬9223372036854775807 < (sb (u++quoteF ky++[58])).size+(sb bd).size:=app_ok (a:=(u++quoteF ky++[58])) (b:=bd) (by first | omega | (simp only [List.length_append,List.length_cons,List.length_nil];omega))
       obtain ⟨UN,hUN⟩:∃UN,UN=sb ((u++quoteF ky++[58])++bd):=⟨_,rfl⟩
       rw [←hUN]at e2
       have HUN:=Lib.hid hUN
       clear hUN hl7 hul hkl
       generalize sb (u++quoteF ky++[58])=S0 at*
       generalize sb (u++quoteF ky)=S1 at*
       generalize sb (quoteF ky)=S2 at*
       generalize sb bd=S3 at*
       generalize sb u=S4 at*
       go_wp2_with fail
       have HB0:=Lib.hid HX.out.1
       have HX0:=Lib.hid HX.out.2
       have hx0:=HX0.out.lt
       clear HX
       refine (HQC.out _).mono ?_
       rintro e w2 ⟨rfl,K2⟩
       have HB1:=Lib.hid (HB0.out.trans (K2.mono HB0.out.size))
       have HX1:=Lib.hid (show Row w2 w.heap.size 61 _ from HX0.out.below K2 HX0.out.lt)
       clear HB0 HX0
       clear HQC K2
       go_wp2_with fail
       refine (HPC.out w2 HB1.out).mono ?_
       rintro e w3 ⟨rfl,K3⟩
       have HB2:=Lib.hid (HB1.out.trans (K3.out.mono HB1.out.size))
       have HX2:=Lib.hid (show Row w3 w.heap.size 61 _ from HX1.out.below K3.out HX1.out.lt)
       clear HB1 HX1
       clear HPC K3
       go_wp2_with fail
       refine (HEC.out w3 HB2.out).mono ?_
       rintro e w4 ⟨rfl,K4⟩
       have HB3:=Lib.hid (HB2.out.trans (K4.out.mono HB2.out.size))
       have HX3:=Lib.hid (show Row w4 w.heap.size 61 _ from HX2.out.below K4.out HX2.out.lt)
       clear HB2 HX2
       clear HEC K4
       go_wp2_with fail
       go_roundg g
       case measure=> omega
       case rel=> exact ⟨_,k+(ll+1),1,congrArg Value.string HUN.out,rfl,by go_num,by omega,HN,Lib.hid ⟨HB3.out,HX3.out⟩⟩
      ·have hi0:(0:Int) < (i:Int):=by omega
       rw [if_neg hi]at HN hl7
       rw [if_pos rfl]at HN hl7
       simp only [List.length_append,List.length_cons,List.length_nil]at hl7
       have e0:sb u++(⟨#[44]⟩:ByteArray)=sb (u++[44]):=sb_app u [44]
       have n0:¬9223372036854775807 < (sb u).size+((⟨#[44]⟩:ByteArray)).size:=app_ok (a:=u) (b:=[44]) (by first | omega | (simp only [List.length_cons,List.length_nil];omega))
       have e1:sb (u++[44])++sb (quoteF ky)=sb ((u++[44])++quoteF ky):=sb_app (u++[44]) (quoteF ky)
       have n1:¬9223372036854775807 < (sb (u++[44])).size+(sb (quoteF ky)).size:=app_ok (a:=(u++[44])) (b:=(quoteF ky)) (by first | omega | (simp only [List.length_append,List.length_cons,List.length_nil];omega))
       have e2:sb ((u++[44])++quoteF ky)++(⟨#[58]⟩:ByteArray)=sb ((u++[44])++quoteF ky++[58]):=sb_app ((u++[44])++quoteF ky) [58]
       have n2:¬9223372036854775807 < (sb ((u++[44])++quoteF ky)).size+((⟨#[58]⟩:ByteArray)).size:=app_ok (a:=((u++[44])++quoteF ky)) (b:=[58]) (by first | omega | (simp only [List.length_append,List.length_cons,List.length_nil];omega))
       have e3:sb ((u++[44])++quoteF ky++[58])++sb bd=sb (((u++[44])++quoteF ky++[58])++bd):=sb_app ((u++[44])++quoteF ky++[58]) bd
       have n3:¬9223372036854775807 < (sb ((u++[44])++quoteF ky++[58])).size+(sb bd).size:=app_ok (a:=((u++[44])++quoteF ky++[58])) (b:=bd) (by first | omega | (simp only [List.length_append,List.length_cons,List.length_nil];omega))
       obtain ⟨UN,hUN⟩:∃UN,UN=sb (((u++[44])++quoteF ky++[58])++bd):=⟨_,rfl⟩
       rw [←hUN]at e3
       have HUN:=Lib.hid hUN
       clear hUN hl7 hul hkl
       generalize sb ((u++[44])++quoteF ky++[58])=S0 at*
       generalize sb ((u++[44])++quoteF ky)=S1 at*
       generalize sb (u++[44])=S2 at*
       generalize sb (quoteF ky)=S3 at*
       generalize sb bd=S4 at*
       generalize sb u=S5 at*
       go_wp2_with fail
       have HB0:=Lib.hid HX.out.1
       have HX0:=Lib.hid HX.out.2
       have hx0:=HX0.out.lt
       clear HX
       refine (HQC.out _).mono ?_
       rintro e w2 ⟨rfl,K2⟩
       have HB1:=Lib.hid (HB0.out.trans (K2.mono HB0.out.size))
       have HX1:=Lib.hid (show Row w2 w.heap.size 61 _ from HX0.out.below K2 HX0.out.lt)
       clear HB0 HX0
       clear HQC K2
       go_wp2_with fail
       refine (HPC.out w2 HB1.out).mono ?_
       rintro e w3 ⟨rfl,K3⟩
       have HB2:=Lib.hid (HB1.out.trans (K3.out.mono HB1.out.size))
       have HX2:=Lib.hid (show Row w3 w.heap.size 61 _ from HX1.out.below K3.out HX1.out.lt)
       clear HB1 HX1
       clear HPC K3
       go_wp2_with fail
       refine (HEC.out w3 HB2.out).mono ?_
       rintro e w4 ⟨rfl,K4⟩
       have HB3:=Lib.hid (HB2.out.trans (K4.out.mono HB2.out.size))
       have HX3:=Lib.hid (show Row w4 w.heap.size 61 _ from HX2.out.below K4.out HX2.out.lt)
       clear HB2 HX2
       clear HEC K4
       go_wp2_with fail
       go_roundg g
       case measure=> omega
       case rel=> exact ⟨_,k+(ll+1),i+1,congrArg Value.string HUN.out,rfl,by go_num,by omega,HN,Lib.hid ⟨HB3.out,HX3.out⟩⟩
  ·have hkd:v.kind=0∨v.kind=1∨v.kind=2∨v.kind=3∨v.kind=4:=by
    have h2:=h1.own.2.2
    have h3:¬(v.kind=5∨v.kind=6):=fun h=> hg (decide_eq_true h)
    omega
   have HQC:=Lib.hid (fun W=> jt_rquote W v.text htx)
   clear ih h1 hdr hL hs hv hg htl
   obtain ⟨kd,key,tx,z⟩:=v
   dsimp only at c0 c1 c2 c3 hkd htx HQC
   rcases hkd with rfl | rfl | rfl | rfl | rfl
   ·rw [show body (⟨0,key,tx,z⟩:V) t=[110,117,108,108]from rfl]
    have HB0:=Lib.hid (below_alloc' w (.cells #[.int .i64 0, .string (sb key), .string (sb tx), .int .i64 z] 61))
    generalize sb key=KEY at*
    generalize sb tx=TX at*
    go_enter Tryz.func74,Tryz.ntmps74
    go_wp2_with fail
    go_ret
    exact ⟨rfl,HB0⟩
   ·rw [show body (⟨1,key,tx,z⟩:V) t=[116,114,117,101]from rfl]
    have HB0:=Lib.hid (below_alloc' w (.cells #[.int .i64 1, .string (sb key), .string (sb tx), .int .i64 z] 61))
    generalize sb key=KEY at*
    generalize sb tx=TX at*
    go_enter Tryz.func74,Tryz.ntmps74
    go_wp2_with fail
    go_ret
    exact ⟨rfl,HB0⟩
   ·rw [show body (⟨2,key,tx,z⟩:V) t=[102,97,108,115,101]from rfl]
    have HB0:=Lib.hid (below_alloc' w (.cells #[.int .i64 2, .string (sb key), .string (sb tx), .int .i64 z] 61))
    generalize sb key=KEY at*
    generalize sb tx=TX at*
    go_enter Tryz.func74,Tryz.ntmps74
    go_wp2_with fail
    go_ret
    exact ⟨rfl,HB0⟩
   ·rw [show body (⟨3,key,tx,z⟩:V) t=tx from rfl]
    have HB0:=Lib.hid (below_alloc' w (.cells #[.int .i64 3, .string (sb key), .string (sb tx), .int .i64 z] 61))
    generalize sb key=KEY at*
    generalize hTT:sb tx=TX at*
    go_enter Tryz.func74,Tryz.ntmps74
    go_wp2_with fail
    go_ret
    exact ⟨rfl,HB0⟩
   ·rw [show body (⟨4,key,tx,z⟩:V) t=(quoteF tx)from rfl]
    have HB0:=Lib.hid (below_alloc' w (.cells #[.int .i64 4, .string (sb key), .string (sb tx), .int .i64 z] 61))
    generalize hqt:sb (quoteF tx)=QT at*
    clear hqt
    generalize sb key=KEY at*
    generalize sb tx=TX at*
    go_enter Tryz.func74,Tryz.ntmps74
    go_wp2_with fail
    refine (HQC.out _).mono ?_
    rintro e w2 ⟨rfl,K2⟩
    have HB2:=Lib.hid (HB0.out.trans (K2.mono HB0.out.size))
    clear K2 HQC HB0
    go_wp2_with fail
    go_ret
    exact ⟨rfl,HB2⟩
end Go.Proofs.YtmkjcleecjjchaaGreatDoor
namespace Go.Proofs.YtmkjcleecjjchaaGreatDoor
open Go.RowKit Sh Jt Js Jo
set_option maxRecDepth 100000
def PForm (w:World) (T:List UInt8) (r:Bool) (e:Ending) (w':World):Prop:=∃A c,e= .returned (.tuple #[.slice A T.length c, .bool r])∧Hid (BytesAt w' A T.length c T∧Below w.heap.size w w')
theorem mt_conv_strR (w:World) (s:List UInt8):∃c w',(convert 9 22 (.string (sb s))).run Tryz.prog w= .ok (.slice (some ⟨w.heap.size,0,none⟩) s.length c) w'∧BytesAt w' (some ⟨w.heap.size,0,none⟩) s.length c s∧Below w.heap.size w w':=by
 have h:=Lib.run_convert_string_bytes (P:=Tryz.prog) w 9 22 5 ⟨s.toArray⟩ Tryz.underlying9 Tryz.underlying22 Tryz.underlying5
 have e:(⟨s.toArray⟩:ByteArray).size=s.length:=rfl
 rw [e]at h
 refine ⟨_,_,h,⟨rfl, ?_,fun hn=> ⟨w.heap.size,0,rfl,by rw [Lib.bytesWorld_size];omega,fun j v hj=> ?_⟩⟩,⟨rfl,rfl,rfl,by rw [Lib.bytesWorld_size];omega,fun k hk=> Lib.bytesWorld_at_old w _ _ k hk⟩⟩
 ·have:=grownCap_ge w s.length 0 5
  exact this
 ·have hjl:j < s.length:=by simpa using (List.getElem?_eq_some_iff.1 hj).1
  rw [Nat.zero_add,Lib.bytesWorld_cell w 5 ⟨s.toArray⟩ j (by rw [e];exact hjl),←hj]
  simp [hjl,v8,n8,List.getD]
set_option maxHeartbeats 4000000 in
theorem js_rprint (w:World) (A:Option Addr) (n c:Nat) (L:List V) (hL:ValsAt w A n c L) (hs:Short 1000000000 L) {t:List UInt8} (hr:Js.Row L t) (ht:t.length≤1000000000000):
  Calls Tryz.prog 41 #[.slice A n c] w (PForm w t true):=by
 have hlen:=hL.len
 have h5:=hr.1
 have HR:=Lib.hid (js_rRight w A n c L hL (by omega) hs)
 rw [(prog_is L).2 ⟨t,hr⟩]at HR
 obtain ⟨v,r,t1,rfl,hone,rfl⟩:=row_oneS hr
 have HP:=Lib.hid (fun W (q:Below w.heap.size w W)=> js_rprintV 50 0 0 c false v r [] t1 W A (v::r) rfl hone (by rw [List.append_nil];rfl) (Nat.le_trans (body_has hone) ht) (by rw [hlen];exact hL.below q) (by omega) hs)
 rw [hlen]at HP
 clear hL hs hr hone h5 hlen
 generalize body v t1=T at*
 go_enter Tryz.func41,Tryz.ntmps41
 go_wp2_with fail
 refine HR.out.mono ?_
 rintro e w2 ⟨rfl,K2⟩
 clear HR
 go_wp2_with fail
 refine (HP.out w2 K2.out).mono ?_
 rintro e w3 ⟨rfl,K3⟩
 have HB:=Lib.hid (K2.out.trans (K3.out.mono K2.out.size))
 obtain ⟨k4,w4,hv4,hb4,kb4⟩:=mt_conv_strR w3 T
 have HX:=Lib.hid (And.intro hb4 (HB.out.trans (kb4.mono HB.out.size)))
 clear HP K2 K3 hb4 kb4 HB
 obtain ⟨tl,htl⟩:∃tl,tl=T.length:=⟨_,rfl⟩
 rw [←htl]at hv4 HX
 have HTL:=Lib.hid htl
 clear htl
 generalize sb T=ST at*
 go_wp2_with fail
 go_ret2
 exact ⟨some ⟨w3.heap.size,0,none⟩,k4,by rw [←HTL.out];rfl,Lib.hid ⟨by rw [←HTL.out];exact HX.out.1,HX.out.2⟩⟩
set_option maxHeartbeats 4000000 in
theorem mt_rprintY (w:World) (m:Man) (A1:Option Addr) (n1 c1:Nat) (A2:Option Addr) (n2 c2:Nat) (hM:ManIn w m A1 n1 c1 A2 n2 c2) (hn1:n1≤140737488351232) (hn2:n2≤250000) (hF:FitM m) (hme:∀d∈m.config::m.layers,d.media.length≤250000) (hok:OkM m) {t:List UInt8} (hr:Js.Row (rowM m) t) (hw:Short 1000000000 (rowM m)) (ht:t.length≤1000000000000):
  Calls Tryz.prog 14 #[.agg (mv m.config (.slice A1 n1 c1) (.slice A2 n2 c2)).toArray] w (PForm w t true):=by
 have hrm:=rightM_yes hr
 have hrest:restOk m.rest=true∧m.layers.length≤60:=⟨hok.rest,hok.len⟩
 have hall:rowM m=allM m:=row_yes hrest.1 hrest.2
 have HRI:=Lib.hid (fun W (q:Below w.heap.size w W)=> mt_rright W m A1 n1 c1 A2 n2 c2 (hM.below q) hn1 hn2 hF hme)
 rw [hrm]at HRI
 have hl1:=hM.lay.len
 have hr5:n2≤5000:=by
  obtain ⟨P,hP,_⟩:=rest_is hrest.1
  have:=right_short hP.right
  have:=hM.rest.len
  omega
 have hO:∀d∈m.config::m.layers,okD d=true∧d.media.length≤250000:=fun d hd=> by
  refine ⟨?_,hme d hd⟩
  rcases List.mem_cons.1 hd with rfl | hd
  ·exact hok.config
  ·exact hok.layers d hd
 have HAL:=Lib.hid (fun W (q:Below w.heap.size w W)=> own_any (f:=42) (args:=#[.agg (mv m.config (.slice A1 n1 c1) (.slice A2 n2 c2)).toArray]) (W:=W) (L:=rowM m) rfl (by rw [hall];exact mt_rall W m A1 n1 c1 A2 n2 c2 (hM.below q) hF hO (by omega) hr5))
 have HPR:=Lib.hid (fun W A n c (h:ValsAt W A n c (rowM m))=> js_rprint W A n c (rowM m) h hw hr ht)
 have HML:=Lib.hid (mv_len hM.dig (.slice A1 n1 c1) (.slice A2 n2 c2))
 have HB:=Lib.hid (below_alloc' w (.cells (mv m.config (.slice A1 n1 c1) (.slice A2 n2 c2)).toArray 31))
 have HMQ:=Lib.hid (Row.new w 31 (mv m.config (.slice A1 n1 c1) (.slice A2 n2 c2)))
 clear hM hF hme hok hr hw ht hrm hrest hall hO
 obtain ⟨MV,hMV⟩:∃MV,MV=mv m.config (.slice A1 n1 c1) (.slice A2 n2 c2):=⟨_,rfl⟩
 rw [←hMV]at HML HB HMQ HRI HAL ⊢
 clear hMV
 go_enter Tryz.func14,Tryz.ntmps14
 go_upto_region 1 with fail
 generalize w.alloc (.cells MV.toArray 31)=w0 at*
 go_wp2_with ((with_reducible refine load_all ?_ 31 (.tmp 1) ?_ w.heap.size 0 MV MV.toArray ?_ _ ?_ Tryz.underlying31 ?_ ?_ ?_ ?_);rfl;rfl;go_must (rfl;exact rangeAt_row HMQ.out;rfl;(rw [HML.out];exact mt_sizeM);rfl))
 refine (HRI.out w0 HB.out).mono ?_
 rintro e w1 ⟨rfl,K1⟩
 replace HB:=Lib.hid (HB.out.trans (K1.out.mono HB.out.size))
 replace HMQ:=Lib.hid (show Row w1 w.heap.size 31 MV from HMQ.out.below K1.out HMQ.out.lt)
 clear HRI K1
 go_wp2_with ((with_reducible refine load_all ?_ 31 (.tmp 1) ?_ w.heap.size 0 MV MV.toArray ?_ _ ?_ Tryz.underlying31 ?_ ?_ ?_ ?_);rfl;rfl;go_must (rfl;exact rangeAt_row HMQ.out;rfl;(rw [HML.out];exact mt_sizeM);rfl))
 refine (HAL.out w1 HB.out).mono ?_
 rintro e w2 ⟨A3,k3,rfl,K2⟩
 replace HB:=Lib.hid (HB.out.trans (K2.out.2.2.mono HB.out.size))
 have HPX:=Lib.hid (HPR.out w2 A3 _ k3 K2.out.2.1)
 clear HAL HPR K2 HMQ
 generalize (rowM m).length=rl at*
 go_wp2_with fail
 refine HPX.out.mono ?_
 rintro e w3 ⟨A4,k4,rfl,K3⟩
 have HX:=Lib.hid (And.intro K3.out.1 (HB.out.trans (K3.out.2.mono HB.out.size)))
 clear HPX K3 HB
 go_wp2_with fail
 go_ret2
 exact ⟨_,_,rfl,HX⟩
set_option maxHeartbeats 4000000 in
theorem mt_rprintN (w:World) (m:Man) (A1:Option Addr) (n1 c1:Nat) (A2:Option Addr) (n2 c2:Nat) (hM:ManIn w m A1 n1 c1 A2 n2 c2) (hn1:n1≤140737488351232) (hn2:n2≤250000) (hF:FitM m) (hme:∀d∈m.config::m.layers,d.media.length≤250000) (hr:rightM m=false):
  Calls Tryz.prog 14 #[.agg (mv m.config (.slice A1 n1 c1) (.slice A2 n2 c2)).toArray] w (PForm w [] false):=by
 have HRI:=Lib.hid (fun W (q:Below w.heap.size w W)=> mt_rright W m A1 n1 c1 A2 n2 c2 (hM.below q) hn1 hn2 hF hme)
 rw [hr]at HRI
 have HML:=Lib.hid (mv_len hM.dig (.slice A1 n1 c1) (.slice A2 n2 c2))
 have HB:=Lib.hid (below_alloc' w (.cells (mv m.config (.slice A1 n1 c1) (.slice A2 n2 c2)).toArray 31))
 have HMQ:=Lib.hid (Row.new w 31 (mv m.config (.slice A1 n1 c1) (.slice A2 n2 c2)))
 clear hM hF hme hr
 obtain ⟨MV,hMV⟩:∃MV,MV=mv m.config (.slice A1 n1 c1) (.slice A2 n2 c2):=⟨_,rfl⟩
 rw [←hMV]at HML HB HMQ HRI ⊢
 clear hMV
 go_enter Tryz.func14,Tryz.ntmps14
 go_upto_region 1 with fail
 generalize w.alloc (.cells MV.toArray 31)=w0 at*
 go_wp2_with ((with_reducible refine load_all ?_ 31 (.tmp 1) ?_ w.heap.size 0 MV MV.toArray ?_ _ ?_ Tryz.underlying31 ?_ ?_ ?_ ?_);rfl;rfl;go_must (rfl;exact rangeAt_row HMQ.out;rfl;(rw [HML.out];exact mt_sizeM);rfl))
 refine (HRI.out w0 HB.out).mono ?_
 rintro e w1 ⟨rfl,K1⟩
 replace HB:=Lib.hid (HB.out.trans (K1.out.mono HB.out.size))
 clear HRI K1 HMQ
 go_wp2_with fail
 go_ret2
 exact ⟨none,0,rfl,Lib.hid ⟨⟨rfl,Nat.le_refl _,fun h=> absurd h (by decide)⟩,HB.out⟩⟩
theorem mt_prints (w:World) (m:Man) (A1:Option Addr) (n1 c1:Nat) (A2:Option Addr) (n2 c2:Nat) (hM:ManIn w m A1 n1 c1 A2 n2 c2) (hn1:n1≤140737488351232) (hn2:n2≤250000) (hW:Words m) (hf:fewM m=true) (hE:MEnv w):
  ∃T,(∀W,Below w.heap.size w W→Calls Tryz.prog 13 #[.agg (mv m.config (.slice A1 n1 c1) (.slice A2 n2 c2)).toArray] W (PForm W T (rightM m)))∧(∀W,Below w.heap.size w W→Calls Tryz.prog 14 #[.agg (mv m.config (.slice A1 n1 c1) (.slice A2 n2 c2)).toArray] W (PForm W T (rightM m))):=by
 have hF:=few_fit hf hW
 have hfb:=few_bounds hf
 have hme:∀d∈m.config::m.layers,d.media.length≤250000:=fun d hd=> by
  rcases List.mem_cons.1 hd with rfl | hd
  ·have:=hfb.1;omega
  ·have:=hfb.2.1 d hd;omega
 rcases row_ok m with hrow | ⟨hok,_⟩
 ·have hr:=rightM_no hrow
  rw [hr]
  refine ⟨[],fun W q=> (mt_print_no W m A1 n1 c1 A2 n2 c2 (hM.below q) hn1 hF (hE.below q) hrow).mono ?_,fun W q=> mt_rprintN W m A1 n1 c1 A2 n2 c2 (hM.below q) hn1 hn2 hF hme hr⟩
  rintro e w' ⟨rfl,K⟩
  exact ⟨none,0,rfl,Lib.hid ⟨⟨rfl,Nat.le_refl _,fun h=> absurd h (by decide)⟩,K.out⟩⟩
 ·obtain ⟨t,hp⟩:=few_prints hf hok hM.digs
  rw [rightM_yes hp.row]
  refine ⟨t,fun W q=> (mt_print W m A1 n1 c1 A2 n2 c2 (hM.below q) hn1 hF (hE.below q) hp.row).mono ?_,fun W q=> mt_rprintY W m A1 n1 c1 A2 n2 c2 (hM.below q) hn1 hn2 hF hme hok hp.row (short_more (row_short (k:=12000) (by decide) hok hM.digs (by have:=hfb.1;omega) (fun d hd=> by have:=hfb.2.1 d hd;omega) (short_more hfb.2.2.2.2 (by decide))) (by decide)) (by have:=hp.len;omega)⟩
  rintro e w' ⟨v,rfl,K⟩
  obtain ⟨A,c,rfl,hb,_⟩:=K.out.1.bytes
  exact ⟨A,c,rfl,Lib.hid ⟨hb,K.out.2⟩⟩
end Go.Proofs.YtmkjcleecjjchaaGreatDoor
