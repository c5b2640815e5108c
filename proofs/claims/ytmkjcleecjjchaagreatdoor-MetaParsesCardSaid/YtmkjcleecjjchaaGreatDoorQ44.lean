import Derived.Test.YtmkjcleecjjchaaGreatDoorQ42
import Derived.Test.YtmkjcleecjjchaaGreatDoorQ43
import Derived.Test.YtmkjcleecjjchaaGreatDoorQ18
import Derived.Test.YtmkjcleecjjchaaGreatDoorQ9
import Derived.Test.YtmkjcleecjjchaaGreatDoorQ38
import Derived.Test.YtmkjcleecjjchaaGreatDoorQ6
namespace Go.Proofs.YtmkjcleecjjchaaGreatDoor
open Go.RowKit Sh Jt Js
theorem val_cons (K:Bool→List UInt8→Res) (key:List UInt8) (d c:Nat) (s:List UInt8) (a:UInt8) (r:List UInt8) (h:skip s=a::r):valW K key d c s=
  if starts a=false then .err 3
  else if 50≤d∨5000≤c then .err 2
  else if a=110 then wordF [110,117,108,108] (a::r) ⟨0,key,[],0⟩
  else if a=116 then wordF [116,114,117,101] (a::r) ⟨1,key,[],0⟩
  else if a=102 then wordF [102,97,108,115,101] (a::r) ⟨2,key,[],0⟩
  else if a=34 then stringF key (a::r)
  else if a=91 then groupF (K false) 5 key 93 r
  else if a=123 then groupF (K true) 6 key 125 r
  else numberF key (a::r):=by
 unfold valW
 rw [h]
theorem js_rvalue:∀g,RValP g:=by
 intro g
 induction g using Nat.strongRecOn with
 | ind g ih=>
  intro w b s u v L d key h hg hs hL hd
  unfold Js.valF
  have hsl:=skip_len u
  cases hx:skip u with
  | nil=>
   have e:valW (fun o2=> kids g o2 (d+1) (L.length+1) []) key d L.length u= .err 3:=by
    unfold valW
    rw [hx]
   rw [e]
   exact js_rv_nil w b s u v L d key h hx hs
  | cons a r=>
   rw [hx,List.length_cons]at hsl
   have hv:=val_cons (fun o2=> kids g o2 (d+1) (L.length+1) []) key d L.length u a r hx
   by_cases hst:starts a=true
   ·rw [if_neg (by rw [hst];decide)]at hv
    by_cases h0:a=110
    ·rw [if_pos h0]at hv
     exact js_rv_word0 w b s u v L d key a r h0 h hx hs hL hd _ hv
    rw [if_neg h0]at hv
    by_cases h1:a=116
    ·rw [if_pos h1]at hv
     exact js_rv_word1 w b s u v L d key a r h1 h hx hs hL hd _ hv
    rw [if_neg h1]at hv
    by_cases h2:a=102
    ·rw [if_pos h2]at hv
     exact js_rv_word2 w b s u v L d key a r h2 h hx hs hL hd _ hv
    rw [if_neg h2]at hv
    by_cases h3:a=34
    ·rw [if_pos h3]at hv
     exact js_rv_str w b s u v L d key a r h3 h hx hs hL hd _ hv
    rw [if_neg h3]at hv
    by_cases h4:a=91
    ·rw [if_pos h4]at hv
     exact js_rv_list w b s u v L d key a r h4 g ih (by omega) h hx hs hL hd _ hv
    rw [if_neg h4]at hv
    by_cases h5:a=123
    ·rw [if_pos h5]at hv
     exact js_rv_obj w b s u v L d key a r h5 g ih (by omega) h hx hs hL hd _ hv
    rw [if_neg h5]at hv
    by_cases h6:a=45
    ·exact js_rv_minus w b s u v L d key a r h6 h hx hs hL hd _ hv
    have hD:isD a=true:=by
     unfold starts at hst
     rw [Bool.or_eq_true]at hst
     rcases hst with hst | hst
     ·rcases of_decide_eq_true hst with e | e | e | e | e | e | e
      ·exact absurd e h0
      ·exact absurd e h1
      ·exact absurd e h2
      ·exact absurd e h3
      ·exact absurd e h4
      ·exact absurd e h5
      ·exact absurd e h6
     ·exact hst
    exact js_rv_digit w b s u v L d key a r hD h hx hs hL hd _ hv
   ·rw [if_pos (by simpa using hst)]at hv
    exact js_rv_no w b s u v L d key a r hst h hx hs hL hd _ hv
end Go.Proofs.YtmkjcleecjjchaaGreatDoor
namespace Go.Proofs.YtmkjcleecjjchaaGreatDoor
open Go.RowKit Go.Maps Go.WideMaps Sh Jt Js
set_option maxRecDepth 100000 in
set_option maxHeartbeats 8000000 in
theorem js_rparse (w:World) (A:Option Addr) (n c:Nat) (bs:List UInt8) (hB:BytesAt w A n c bs) (hn:n≤1000000000):
  Calls Tryz.prog 30 #[.slice A n c] w (ParsePost w (parseF bs)):=by
 have hcv:=conv_bytes w A n c bs hB
 rw [show (⟨bs.toArray⟩:ByteArray)=sb bs from rfl]at hcv
 have hl:bs.length≤1000000000:=by rw [hB.len];exact hn
 have hB1:=below_alloc w (.cells #[.string (sb bs), .int .i64 0, .slice none 0 0, .int .i64 0] 93)
 have hR:RR (w.alloc (.cells #[.string (sb bs), .int .i64 0, .slice none 0 0, .int .i64 0] 93)) w.heap.size bs bs (.slice none 0 0) [] 0:=⟨0,Nat.zero_le _,rfl,⟨Row.new w _ _,OwnVals.nil _ _⟩⟩
 have HV:=Lib.hid (js_rvalue bs.length _ w.heap.size bs bs _ [] 0 [] hR (Nat.le_refl _) hl (Nat.zero_le _) (Nat.zero_le _))
 have HBB:=Lib.hid (fun w2 v2 (k:Stp (w.alloc (.cells #[.string (sb bs), .int .i64 0, .slice none 0 0, .int .i64 0] 93)) w2 w.heap.size (.slice none 0 0) v2)=> show Below w.heap.size w w2 from hB1.trans (k.below (Nat.le_refl _) hB1.size (fun k hk=> by cases hk)))
 obtain ⟨RR0,hRR⟩:∃RR0,RR0=parseF bs:=⟨_,rfl⟩
 rw [←hRR]
 unfold parseF at hRR
 have HRR:=Lib.hid hRR
 change Hid (Calls _ _ #[_, .string ⟨#[]⟩, .int .i64 0] _ (RVPost _ _ _ [] _ (Js.valF bs.length [] 0 0 bs)))at HV
 clear hRR hR hB hB1
 generalize Js.valF bs.length [] 0 0 bs=R at*
 go_enter Tryz.func30,Tryz.ntmps30
 go_wp2_with fail
 refine HV.out.mono ?_
 intro e w2 hp
 clear hcv
 cases R with
 | err ec=>
  obtain ⟨rfl,hec,u',v',L',HP⟩:=hp
  have HS:=Lib.hid (js_rskip' HP.out.1 hl)
  have HBX:=Lib.hid (fun w3 (k:Stp w2 w3 w.heap.size v' v')=> HBB.out w3 v' (HP.out.2.trans k))
  have hec':¬(ec:Int)=0:=by omega
  have hecb:((ec:Int)==0)=false:=beq_eq_false_iff_ne.2 hec'
  have hecn:((ec:Int) !=0)=true:=by rw [bne,hecb];rfl
  have HEC:=Lib.hid hec
  clear HP HV HBB hec
  go_wp2_with fail
  refine HS.out.mono ?_
  rintro e w3 ⟨rfl,HX⟩
  obtain ⟨p,hp,hq,hr⟩:=HX.out.1
  obtain ⟨c0,c1,c2,c3⟩:=hr.cells
  have HB3:=Lib.hid (HBX.out w3 HX.out.2)
  clear HS hr hq hp HBX HX
  generalize hB0:w.heap.size=B0 at*
  go_upto_region 4 with fail
  go_quiet (fail)
  have HB4:=Lib.hid (HB3.out.trans ((below_drewN (Below.refl w3.heap.size w3) nq).mono (hB0▸HB3.out.size)))
  have c3':(w3.drewN nq).cell? ⟨B0,3,none⟩=some (.int .i64 (ec:Int)):=c3
  clear c0 c1 c2 c3 HB3
  generalize w3.drewN nq=w4 at*
  go_upto_region 7 with fail
  go_quiet (fail)
  go_wp2_with fail
  go_ret2
  show ParsePost w RR0 _ _
  rw [HRR.out]
  exact ⟨rfl,HEC.out,by rw [hB0];exact below_drewN HB4.out _⟩
 | ok m l r=>
  obtain ⟨rfl,v',HP⟩:=hp
  have HS:=Lib.hid (js_rskip' HP.out.1 hl)
  have HBX:=Lib.hid (fun w3 (k:Stp w2 w3 w.heap.size v' v')=> HBB.out w3 v' (HP.out.2.trans k))
  clear HP HV HBB
  rw [List.nil_append]at HS
  generalize hsk:skip r=u at*
  have hz:=sb_size bs
  cases u with
  | nil=>
   have HRS:=Lib.hid (show RR0= .ok m l []by rw [HRR.out,Res.bind_ok,if_pos hsk])
   clear HRR hsk
   go_wp2_with fail
   refine HS.out.mono ?_
   rintro e w3 ⟨rfl,HX⟩
   obtain ⟨p,hp,hq,hr⟩:=HX.out.1
   obtain ⟨c0,c1,c2,c3⟩:=hr.cells
   have hpl:¬(p:Int) < (bs.length:Int):=by
    have:=congrArg List.length hq
    rw [List.length_drop,List.length_nil]at this
    omega
   have hpd:decide ((p:Int) < (bs.length:Int))=false:=decide_eq_false hpl
   have hpd2:decide (p < bs.length)=false:=decide_eq_false (by omega)
   have HB3:=Lib.hid (HBX.out w3 HX.out.2)
   have HOW:=Lib.hid hr.own
   clear HS hr hq hp HBX HX
   generalize hB0:w.heap.size=B0 at*
   generalize sb bs=S at*
   go_upto_region 4 with fail
   go_quiet (fail)
   have hq4:=(below_drewN (Below.refl w3.heap.size w3) nq)
   have HB4:=Lib.hid (HB3.out.trans (hq4.mono (hB0▸HB3.out.size)))
   have HO4:=Lib.hid (HOW.out.below hq4)
   have c3':(w3.drewN nq).cell? ⟨B0,3,none⟩=some (.int .i64 0):=c3
   have c2':(w3.drewN nq).cell? ⟨B0,2,none⟩=some v':=c2
   clear c0 c1 c2 c3 HB3 HOW hq4
   generalize w3.drewN nq=w4 at*
   go_wp2_with fail
   go_ret2
   show ParsePost w RR0 _ _
   rw [HRS.out]
   exact ⟨v',rfl,by rw [hB0];exact HO4.out.mono (by omega),by rw [hB0];exact HB4.out⟩
  | cons a u=>
   have HRS:=Lib.hid (show RR0= .err 3 by rw [HRR.out,Res.bind_ok,if_neg (by rw [hsk];exact List.cons_ne_nil _ _)])
   clear HRR hsk
   go_wp2_with fail
   refine HS.out.mono ?_
   rintro e w3 ⟨rfl,HX⟩
   obtain ⟨p,hp,hq,hr⟩:=HX.out.1
   obtain ⟨c0,c1,c2,c3⟩:=hr.cells
   have hpl:(p:Int) < (bs.length:Int):=by
    have:=congrArg List.length hq
    rw [List.length_drop,List.length_cons]at this
    omega
   have hpd:decide ((p:Int) < (bs.length:Int))=true:=decide_eq_true hpl
   have hpd2:decide (p < bs.length)=true:=decide_eq_true (by omega)
   have HE3:=Lib.hid (fun n=> (hr.drew n).1.err 3)
   have HB3:=Lib.hid (fun n=> HBX.out _ (HX.out.2.trans ((hr.drew n).2.trans ((hr.drew n).1.err 3).2)))
   have ff:=fun n=> (hr.drew n).1.row.frozen 3
   clear HS hr hq hp HBX HX
   generalize hB0:w.heap.size=B0 at*
   generalize sb bs=S at*
   go_upto_region 4 with fail
   go_quiet (fail)
   have ff3:=ff nq
   have c3':(w3.drewN nq).cell? ⟨B0,3,none⟩=some (.int .i64 0):=c3
   have HB4:=Lib.hid (HB3.out nq)
   clear c0 c1 c2 c3 HB3 HE3 ff
   generalize w3.drewN nq=w4 at*
   go_upto_region 7 with fail
   go_quiet (fail)
   go_wp2_with fail
   go_ret2
   show ParsePost w RR0 _ _
   rw [HRS.out]
   exact ⟨rfl,by decide,by rw [hB0];exact below_drewN HB4.out _⟩
end Go.Proofs.YtmkjcleecjjchaaGreatDoor
namespace Go.Proofs.YtmkjcleecjjchaaGreatDoor
open Go.RowKit Sh Jt Js
def iv (k:Nat):Value:= .int .i64 (k:Int)
structure IntsAt (w:World) (A:Option Addr) (n c:Nat) (P:List Nat):Prop where
 len:P.length=n
 cap:n≤c
 at_:0 < n→∃b o,A=some ⟨b,o,none⟩∧b < w.heap.size∧w.rangeAt b o (P.map iv)
theorem IntsAt.kept {w w':World} {S:Nat→Prop} {A:Option Addr} {n c:Nat} {P:List Nat} (h:IntsAt w A n c P) (k:Kept w w' S) (hS:∀b o,A=some ⟨b,o,none⟩→b < w.heap.size→¬S b):IntsAt w' A n c P:=
 ⟨h.len,h.cap,fun hn=> by
  obtain ⟨b,o,e,hlt,hr⟩:=h.at_ hn
  exact ⟨b,o,e,Nat.lt_of_lt_of_le hlt k.size,rangeAt_kept hr k (hS b o e hlt)⟩⟩
theorem IntsAt.below {w w':World} {A:Option Addr} {n c:Nat} {P:List Nat} (h:IntsAt w A n c P) (hb:Below w.heap.size w w'):IntsAt w' A n c P:=h.kept (kept_below hb) (fun _ _ _ _ h=> h)
theorem IntsAt.cell {w:World} {b o n c:Nat} {P:List Nat} (h:IntsAt w (some ⟨b,o,none⟩) n c P) {i:Nat} (hi:i < P.length):w.cell? ⟨b,o+i,none⟩=some (.int .i64 (P[i]:Int)):=by
 obtain ⟨b',o',e,_,hr⟩:=h.at_ (by have:=h.len;omega)
 cases e
 exact hr i _ (by rw [List.getElem?_map,List.getElem?_eq_getElem hi];rfl)
theorem IntsAt.pre {w:World} {A:Option Addr} {n c:Nat} {P:List Nat} (h:IntsAt w A n c P) {m:Nat} (hm:m≤n):IntsAt w A m c (P.take m):=by
 have hl:=h.len
 have hc:=h.cap
 refine ⟨by rw [List.length_take];omega,by omega,fun h0=> ?_⟩
 obtain ⟨b,o,e,hlt,hr⟩:=h.at_ (by omega)
 refine ⟨b,o,e,hlt,fun j v hj=> hr j v ?_⟩
 rw [List.map_take,List.getElem?_take]at hj
 split at hj
 ·exact hj
 ·cases hj
theorem IntsAt.behind {w:World} {b o n c:Nat} {P:List Nat} (h:IntsAt w (some ⟨b,o,none⟩) n c P) {m:Nat} (hm:m≤n) {AD:Addr} (hA:(if c=m then some (⟨b,o,none⟩:Addr) else some ⟨b,o+m,none⟩)=some AD):IntsAt w (some AD) (n - m) (c - m) (P.drop m):=by
 have hl:=h.len
 have hc:=h.cap
 refine ⟨by rw [List.length_drop];omega,by omega,fun h0=> ?_⟩
 obtain ⟨b',o',e,hlt,hr⟩:=h.at_ (by omega)
 cases e
 rw [if_neg (by omega)]at hA
 cases hA
 refine ⟨b,o+m,rfl,hlt,fun j v hj=> ?_⟩
 rw [List.map_drop,List.getElem?_drop]at hj
 have:=hr _ _ hj
 rwa [←Nat.add_assoc]at this
theorem IntsAt.one (w:World) (k:Nat):IntsAt (w.alloc (.cells #[iv k] 3)) (some ⟨w.heap.size,0,none⟩) 1 1 [k]:=by
 have r:=Row.new w 3 [iv k]
 exact ⟨rfl,Nat.le_refl _,fun _=> ⟨_,0,rfl,r.lt,r.range 0 _ (fun j v hj=> by rw [Nat.zero_add];exact hj)⟩⟩
def OwnInts (w:World) (B:Nat) (v:Value) (P:List Nat):Prop:=w.ownsRow B 3 1 v P.length (P.map iv)
theorem OwnInts.nil (w:World) (B:Nat):OwnInts w B (.slice none 0 0) []:=⟨rfl, .inl ⟨rfl,rfl⟩⟩
theorem OwnInts.made (w:World):OwnInts (w.alloc (.cells #[] 3)) w.heap.size (.slice (some ⟨w.heap.size,0,none⟩) 0 0) []:=
 ⟨rfl, .inr ⟨w.heap.size,0,#[],rfl,Nat.le_refl _,heap_alloc_new w _,Nat.le_refl _,Nat.zero_le _,rfl,rfl⟩⟩
theorem OwnInts.kept {w w':World} {S:Nat→Prop} {B:Nat} {v:Value} {P:List Nat} (h:OwnInts w B v P) (k:Kept w w' S) (hS:∀b,v.ownBlock=some b→¬S b):OwnInts w' B v P:=by
 obtain ⟨hl,h1 | ⟨g,cap,cur,rfl,hg,hh,hn,hc,hs,ht⟩⟩:=h
 ·exact ⟨hl, .inl h1⟩
 ·exact ⟨hl, .inr ⟨g,cap,cur,rfl,hg,(k.block g (Array.getElem?_eq_some_iff.1 hh).1 (hS g rfl)).trans hh,hn,hc,hs,ht⟩⟩
theorem OwnInts.below {w w':World} {B:Nat} {v:Value} {P:List Nat} (h:OwnInts w B v P) (hb:Below w.heap.size w w'):OwnInts w' B v P:=h.kept (kept_below hb) (fun _ _ h=> h)
theorem OwnInts.mono {w:World} {B B':Nat} {v:Value} {P:List Nat} (h:OwnInts w B v P) (hB:B'≤B):OwnInts w B' v P:=by
 obtain ⟨hl,h1 | ⟨g,cap,cur,rfl,hg,rest⟩⟩:=h
 ·exact ⟨hl, .inl h1⟩
 ·exact ⟨hl, .inr ⟨g,cap,cur,rfl,Nat.le_trans hB hg,rest⟩⟩
theorem OwnInts.ints {w:World} {B:Nat} {v:Value} {P:List Nat} (h:OwnInts w B v P):(P=[]∧∃A c,v= .slice A 0 c)∨∃g c,v= .slice (some ⟨g,0,none⟩) P.length c∧IntsAt w (some ⟨g,0,none⟩) P.length c P∧g < w.heap.size∧B≤g:=by
 obtain ⟨hl,⟨rfl,h0⟩ | ⟨g,cap,cur,rfl,hg,hh,hn,hc,hs,ht⟩⟩:=h
 ·exact .inl ⟨List.eq_nil_of_length_eq_zero h0,none,0,rfl⟩
 ·have hlt:=(Array.getElem?_eq_some_iff.1 hh).1
  refine .inr ⟨g,cap,rfl,⟨rfl,hn,fun _=> ⟨g,0,rfl,hlt,fun j u hj=> ?_⟩⟩,hlt,hg⟩
  have hjl:=(List.getElem?_eq_some_iff.1 hj).1
  rw [List.length_map]at hjl
  rw [cell_of_row _ _ _ _ _ _ hh,Nat.zero_add,←hj,←ht,List.getElem?_take,if_pos (by omega)]
  simp
theorem OwnInts.none0 {w:World} {B:Nat} {v:Value} (h:OwnInts w B v []):∃A c,v= .slice A 0 c:=by
 rcases h.ints with ⟨_,h⟩ | ⟨g,c,e,_⟩
 ·exact h
 ·exact ⟨_,_,e⟩
theorem OwnInts.some1 {w:World} {B n:Nat} {v:Value} {P:List Nat} (h:OwnInts w B v P) (hn:P.length=n) (h0:0 < n):∃g c,v= .slice (some ⟨g,0,none⟩) n c∧IntsAt w (some ⟨g,0,none⟩) n c P∧g < w.heap.size∧B≤g∧n≤c:=by
 subst hn
 rcases h.ints with ⟨e,_⟩ | ⟨g,c,e,h1,h2,h3⟩
 ·rw [e]at h0
  exact absurd h0 (Nat.lt_irrefl _)
 ·exact ⟨g,c,e,h1,h2,h3,h1.cap⟩
theorem ints_apart {w:World} {B B2:Nat} {v u:Value} {L:List V} {P:List Nat} (h:OwnVals w B v L) (h2:OwnInts w B2 u P):∀k,v.ownBlock=some k→¬u.ownBlock=some k:=by
 intro k hk hk2
 obtain ⟨hl,⟨rfl,_⟩ | ⟨g,cap,cur,rfl,hg,hh,_⟩⟩:=h
 ·cases hk
 ·obtain ⟨hl2,⟨rfl,_⟩ | ⟨g2,cap2,cur2,rfl,hg2,hh2,_⟩⟩:=h2
  ·cases hk2
  ·obtain rfl:g=k:=Option.some.inj hk
   obtain rfl:g2=g:=Option.some.inj hk2
   rw [hh]at hh2
   simp only [Option.some.injEq,Obj.cells.injEq]at hh2
   exact absurd hh2.2 (by simp)
theorem js_infoI:∃i,Tryz.prog.info? 3=some i∧i.zero=some (.int .i64 0)∧i.size=1∧i.bytes=8:=by
 have h:(Tryz.prog.info? 3).map (fun i=> (i.zero,i.size,i.bytes))=some (some (.int .i64 0),1,8):=by kernel_rfl
 obtain ⟨i,hi,hz⟩:=Option.map_eq_some_iff.1 h
 simp only [Prod.mk.injEq]at hz
 exact ⟨i,hi,hz.1,hz.2.1,hz.2.2⟩
theorem run_append_ints {w:World} (ty:TypeId) (B:Nat) (v:Value) (P:List Nat) (hown:OwnInts w B v P) (ad:Addr) (n c:Nat) (M:List Nat) (hsrc:IntsAt w (some ad) n c M) (hb:P.length+n≤1000000000000) (hB:B≤w.heap.size):
  ∃v' w',(Builtin.append_ #[126,126] ty #[v, .slice (some ad) n c]).run Tryz.prog w= .ok v' w'∧OwnInts w' B v' (P++M)∧Kept w w' (fun k=> B≤k∧v.ownBlock=some k):=by
 obtain ⟨i,hi,hz,hsz,hby⟩:=js_infoI
 have hlen:=hsrc.len
 have hnews:∀j u,(M.map iv)[j]? =some u→w.cell? (ad.add j)=some u:=by
  intro j u hj
  have hjl:=(List.getElem?_eq_some_iff.1 hj).1
  rw [List.length_map]at hjl
  obtain ⟨b,off,e,_,hr⟩:=hsrc.at_ (by omega)
  simp only [Option.some.injEq]at e
  subst e
  rw [Addr.add_mid]
  exact hr j u hj
 obtain ⟨v',w',hr,h2,h3,h4,h5⟩:=run_append_own_at (P:=Tryz.prog) w B 126 ty 3 i (.int .i64 0) 1 8 Tryz.underlying126 hi hz hsz hby rfl (by decide) v P.length (P.map iv) hown ad n c (M.map iv)
  (by rw [List.length_map,hlen,Nat.mul_one]) hnews (fun v hv=> by obtain ⟨k,_,rfl⟩:=List.mem_map.1 hv;rfl) (by unfold maxLen;omega) (by omega) hB
 refine ⟨v',w',hr, ?_, ?_⟩
 ·show w'.ownsRow B _ 1 v' (P++M).length ((P++M).map iv)
  rw [List.length_append,hlen,List.map_append]
  exact h2
 ·refine ⟨h3.os,h3.tape,h3.output,h3.size,fun k hk hn=> h3.block k hk (fun e=> hn ?_)⟩
  obtain ⟨_,⟨rfl,_⟩ | ⟨g,cap,cur,rfl,hg,_⟩⟩:=hown
  ·cases e
  ·have e':g=k:=by simpa [Value.ownBlock] using e.symm
   subst e'
   exact ⟨hg,rfl⟩
theorem append_ints {w:World} {ops:Array Oper} {rest:List Oper} {o:Oper} {a:Act} {Q:Exit→Act→World→Prop} (hg:o.guard=none) (s x:Operand)
  (ho:o.op= .call {callee:= .builtin .append,args:=#[s,x],argTypes:=#[126,126]}) (B:Nat) (v:Value) (P:List Nat) (hs:a.eval s=v) (hown:OwnInts w B v P)
  (ad:Addr) (n c:Nat) (M:List Nat) (hx:a.eval x= .slice (some ad) n c) (hsrc:IntsAt w (some ad) n c M) (hb:P.length+n≤1000000000000) (hB:B≤w.heap.size)
  (h:∀v' w',Hid (OwnInts w' B v' (P++M))→Hid (Kept w w' (fun k=> B≤k∧v.ownBlock=some k))→wpList Tryz.prog ops Q rest (a.put o.dst v') w'):wpList Tryz.prog ops Q (o::rest) a w:=by
 obtain ⟨v',w',hr,h2,h3⟩:=run_append_ints o.type B v P hown ad n c M hsrc hb hB
 refine wpList_wanted (by simp [Region.wanted,hg]) fun K hK=> ?_
 unfold Oper.wp execOp
 simp only [ho,resolve,invoke,builtin,Sem.run_bind,Sem.run_pure,Result.andThen_ok,List.map_toArray,List.map_cons,List.map_nil,hs,hx,hr]
 exact hK _ _ (h v' w' (Lib.hid h2) (Lib.hid h3))
end Go.Proofs.YtmkjcleecjjchaaGreatDoor
namespace Go.Proofs.YtmkjcleecjjchaaGreatDoor
open Go.RowKit Sh Jt Js
theorem build_int1 {ops:Array Oper} {rest:List Oper} {o:Oper} {a:Act} {w:World} {Q:Exit→Act→World→Prop} (hg:o.guard=none) (x:Operand) (ho:o.op= .buildSlice 126 1 #[(0,x)]) (k:Nat) (hx:a.eval x= .int .i64 (k:Int))
  (h:wpList Tryz.prog ops Q rest (a.put o.dst (.slice (some ⟨w.heap.size,0,none⟩) 1 1)) (w.alloc (.cells #[iv k] 3))):wpList Tryz.prog ops Q (o::rest) a w:=by
 obtain ⟨i,hi,hz,hsz,_⟩:=js_infoI
 refine wpList_buildSlice hg 126 3 1 #[(0,x)] ho #[iv k] i _ Tryz.underlying126 hi hz (by rw [hsz];decide) (by rw [hsz];decide) ?_ h
 rw [hsz]
 have e:(Array.map (fun (p:Nat×Operand)=> (p.1,a.eval p.2)) #[(0,x)]).toList=[(0,iv k)]:=by simp [hx,iv]
 show Instr.fill _ _ (Array.map (fun (p:Nat×Operand)=> (p.1,a.eval p.2)) #[(0,x)]).toList=_
 rw [e,show Array.range (1*1)=#[0]from by decide]
 simp [Instr.fill,Value.cells,iv]
theorem below_drewS {B:Nat} {w w2:World} (h:Below B w w2):Below B w w2.drew:=below_drewN h 1
theorem at_drop {L x:List V} {k:Nat} {v:V} (h:L.drop k=v::x):∃hk:k < L.length,L[k]=v:=by
 have hk:k < L.length:=by
  have:=congrArg List.length h
  rw [List.length_drop,List.length_cons]at this
  omega
 refine ⟨hk, ?_⟩
 rw [List.drop_eq_getElem_cons hk]at h
 exact (List.cons.inj h).1
set_option maxRecDepth 100000 in
set_option maxHeartbeats 8000000 in
theorem js_rkidsF (w:World) (A:Option Addr) (c:Nat) (L:List V) (hL:ValsAt w A L.length c L) (hn:L.length≤250000) (a d:Nat) (ob:Bool) (v:V) (r x:List V) (t:List UInt8) (h1:One d ob v r t) (hd:L.drop a=v::(r++x)):
  Calls Tryz.prog 107 #[.slice A L.length c, .int .i64 (a:Int)] w fun e w'=> ∃v',e= .returned v'∧Hid (OwnInts w' w.heap.size v' ((placesF (a+1) (ownParts v r)).map (·.1))∧Below w.heap.size w w'):=by
 obtain ⟨ha,hv⟩:=at_drop hd
 obtain ⟨b,o,rfl,hb,_⟩:=hL.at_ (by omega)
 have HE:=Lib.hid (fun W (q:Below w.heap.size w W) (k e:Nat) (hk:k < L.length) (h:endW (L.drop k) 1=some e)=> js_rend W (some ⟨b,o,none⟩) c L (hL.below q) hn k e hk h)
 have HC:=Lib.hid (fun W (q:Below w.heap.size w W)=> (hL.below q).cells ha)
 rw [hv]at HC
 obtain ⟨hc1,hc2⟩:=KidS.count h1
 have hm9:(ownParts v r).length≤250000:=by
  have:=congrArg List.length hd
  rw [List.length_drop,List.length_cons,List.length_append]at this
  omega
 have HS:=Lib.hid (KidS.start h1 hd)
 rw [←hc1]at HC
 clear hL hv h1 hd hc1 hc2
 generalize placesF (a+1) (ownParts v r)=All at*
 generalize ownParts v r=P at*
 obtain ⟨m,hm⟩:∃m,m=P.length:=⟨_,rfl⟩
 rw [←hm]at HC hm9
 have HM:=Lib.hid hm
 clear hm
 generalize isObj v=oo at*
 have ha9:(a:Int) < (L.length:Int):=by omega
 go_enter Tryz.func107,Tryz.ntmps107
 go_wp2_with fail
 go_loopg [5,6,7] m (fun g v5 v6 v7 wx=> ∃(D:List (Nat×List V)) (k i:Nat) (R:List (List V)),v6= .int .i64 (k:Int)∧v7= .int .i64 (i:Int)∧i+g=m∧Hid (R.length=g∧D.length=i)∧Hid (KidS L x (d+1) oo All D k R)∧Hid (OwnInts wx w.heap.size v5 (D.map (·.1))∧Below w.heap.size w wx))
 case atStart=> exact ⟨[],a+1,0,P,by go_num,rfl,by omega,Lib.hid ⟨HM.out.symm,rfl⟩,HS,Lib.hid ⟨OwnInts.nil _ _,Below.refl _ _⟩⟩
 case round=>
  clear HS HM
  obtain ⟨D,k,i,R,rfl,rfl,hig,HN,HK,HO⟩:=hrel
  obtain ⟨x0,x1,x2,x3⟩:=HC.out wr HO.out.2
  cases gk with
  | zero=>
   obtain rfl:i=m:=by omega
   have hge:¬(i:Int) < (i:Int):=by omega
   have HR:Hid (All=D):=Lib.hid (by
    have h2:=HK.out.eq
    rw [List.eq_nil_of_length_eq_zero HN.out.1]at h2
    exact h2.trans (List.append_nil D))
   clear HK HN HC HE
   go_wp2_with fail
   go_ret
   exact ⟨_,rfl,Lib.hid ⟨by rw [HR.out];exact HO.out.1,HO.out.2⟩⟩
  | succ g=>
   have hlt:(i:Int) < (m:Int):=by omega
   match R,HN with
   | [],HN=> exact absurd HN.out.1 (Nat.succ_ne_zero g).symm
   | p::R,HN=>
    obtain ⟨q1,q2,q3⟩:=HK.out.next
    have HK2:=Lib.hid q3
    have HE2:=Lib.hid (fun W q=> HE.out W q k p.length q1 q2)
    have HBL:=Lib.hid (show OwnInts (wr.alloc (.cells #[iv k] 3)) w.heap.size u5 (D.map (·.1))from HO.out.1.below (below_alloc wr _))
    have hDl:(D.map (·.1)).length≤250000:=by rw [List.length_map,HN.out.2];omega
    have HDL:=Lib.hid hDl
    have HSZ:=Lib.hid (show w.heap.size≤(wr.alloc (.cells #[iv k] 3)).heap.size from Nat.le_trans HO.out.2.size (below_alloc wr _).size)
    have HBA:=Lib.hid (HO.out.2.trans ((below_alloc wr (.cells #[iv k] 3)).mono HO.out.2.size))
    clear q1 q2 q3 HE hDl
    go_wp2_with (first
     | (with_reducible refine build_int1 rfl _ rfl k rfl ?_)
     | (at_builtin;go_must (with_reducible refine append_ints rfl _ _ rfl w.heap.size u5 (D.map (·.1)) rfl HBL.out ⟨wr.heap.size,0,none⟩ 1 1 [k] rfl (IntsAt.one wr k) (by have:=HDL.out;omega) HSZ.out ?_;intro v4 w4 h1 h2;have HB4:=Lib.hid (HBA.out.trans (h2.out.below HSZ.out (fun i hi e=> by have:=e.1;omega)));have HO4:=h1;clear h1 h2)))
    have HEX:=Lib.hid (HE2.out w4 HB4.out)
    clear HE2 HBL HBA HSZ
    go_wp2_with fail
    refine HEX.out.mono ?_
    rintro e w5 ⟨rfl,K5⟩
    have HB5:=Lib.hid (HB4.out.trans (K5.out.mono HB4.out.size))
    have HO5:=Lib.hid (show OwnInts w5 w.heap.size v4 ((D++[(k,p)]).map (·.1))from by rw [List.map_append];exact HO4.out.below K5.out)
    clear HO4 K5 HEX HB4 HO
    go_wp2_with fail
    go_roundg g
    case measure=> omega
    case rel=> exact ⟨D++[(k,p)],k+p.length,i+1,R,rfl,by go_num,by omega,Lib.hid ⟨by have:=HN.out.1;rw [List.length_cons]at this;omega,by rw [List.length_append,HN.out.2];rfl⟩,HK2,Lib.hid ⟨HO5.out,HB5.out⟩⟩
end Go.Proofs.YtmkjcleecjjchaaGreatDoor
