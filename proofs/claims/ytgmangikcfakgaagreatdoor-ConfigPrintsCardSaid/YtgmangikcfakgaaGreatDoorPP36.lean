import Derived.Test.YtgmangikcfakgaaGreatDoorPP25
import Derived.Test.YtgmangikcfakgaaGreatDoorPP22
import Derived.Shelf.SlSortCmp.Whole1
import Derived.Ground.SlsfProg
import Derived.Test.YtgmangikcfakgaaGreatDoorProg
import Derived.Test.YtgmangikcfakgaaGreatDoorPP19
import Derived.BigQuiet
namespace Go.Proofs.YtgmangikcfakgaaGreatDoor
open Go
namespace Jo
open Jt Js
set_option maxRecDepth 100000
theorem body_ok {c:Cfg} (hok:okC c=true) (h1:∀h∈c.hist,rightPF (rowH h)=true) (h2:∃ks,Parts 2 false ks (c.hist.map rowH)) (hl:c.rest.length+(3+c.ids.length)+((c.hist.map rowH).flatten.length+1)≤5000):rightPF (bodyC c)=true:=by
 obtain ⟨p1,p2,p3,p4,p5⟩:=ok_parts hok
 obtain ⟨P,hY,n1,n2,_⟩:=plain_is p1
 obtain ⟨ks2,hH2⟩:=h2
 obtain ⟨t1,o1⟩:=root_one c.ids (key:=rootK) (n:=1) (o:=true) (fun h=> by cases h) root_valid (by decide)
 have hrl:=root_len c.ids
 have hrr:=root_right p2
 rw [root_flat]at hrl hrr
 rw [List.length_cons]at hrl
 obtain ⟨x1,x2⟩:=ObjIs.add hY (key:=rootK) hrr o1 n1 (by omega)
 unfold bodyC
 rw [root_flat]
 by_cases hh:c.hist=[]
 ·rw [if_pos hh]
  exact x1.right
 ·rw [if_neg hh]
  obtain ⟨t2,o2⟩:=one_list (d:=1) (o:=true) (key:=histK) (by decide) (fun h=> by cases h) hist_valid hH2 rfl
  have hlr:rightPF (listF (c.hist.map rowH))=true:=one_right (one_bare o2) (by omega)
  have hla:listA (c.hist.map rowH)=listF (c.hist.map rowH):=by
   unfold listA fineF
   rw [if_pos (List.all_eq_true.2 fun p hp=> by
    obtain ⟨x,hx,rfl⟩:=List.mem_map.1 hp
    exact h1 x hx),if_pos hlr]
  have n3:histK∉(P++[(⟨6,rootK,[],2⟩:V)::(rootP c.ids).flatten]).map Js.keyOf:=by
   rw [List.map_append,List.mem_append]
   rintro (e | e)
   ·exact n2 e
   ·exact root_hist (List.mem_singleton.1 e).symm
  obtain ⟨z1,z2⟩:=ObjIs.add x1 (key:=histK) (v:=⟨5,[],[],((c.hist.map rowH).length:Nat)⟩) hlr o2 n3 (by omega)
  rw [hla]
  exact z1.right
theorem row_yes14 {c:Cfg} (hok:okC c=true) (hr:rightPF (bodyC c)=true):rowC c=srt (bodyC c)∧rowC c≠[]:=by
 have e:rowC c=srt (bodyC c):=by
  unfold rowC
  rw [if_pos hok,sort_yes hr]
 refine ⟨e,fun h=> ?_⟩
 have:=(srt_srt hr).2.1
 rw [←e,h]at this
 exact absurd (right_pos this) (Nat.lt_irrefl _)
theorem row_no14 {c:Cfg} (h:okC c=false):rowC c=[]:=by
 unfold rowC
 rw [h]
 exact if_neg fun e=> by cases e
def none0:List V:=[⟨6,[],[],0⟩]
theorem none_right:rightPF none0=true:=whole_right (v:=⟨6,[],[],0⟩) (P:=[]) (own_obj 0) .nil rfl (fun _=> List.nodup_nil) (by decide)
theorem none_is:ObjIs none0 []:=ObjIs.of (P:=[]) (n:=0) rfl none_right (fun p hp=> by cases hp)
theorem none_same:srt none0=none0:=rfl
theorem none_plain (a b:List UInt8):plainF none0 a b=true:=is_plain none_is (fun h=> by cases h) (fun h=> by cases h) none_same
theorem none_obj:objA [] []=none0:=by
 unfold objA fineF
 rw [if_pos ⟨rfl,rfl⟩]
 exact if_pos none_right
theorem own_by {who:List UInt8} (hw:validF who=true) {d:Nat} (hd:d < 50):One d true ⟨4,byK,who,0⟩ [] []:=one_str hd (fun h=> by cases h) by_valid hw
theorem own_true {key:List UInt8} (hk:validF key=true) {d:Nat} (hd:d < 50) {o:Bool} (ho:o=false→key=[]):One d o ⟨1,key,[],0⟩ [] []:=One.leaf ⟨ho,hk, .inl ⟨.inr (.inl rfl),rfl,rfl⟩⟩ hd (show (1:Int)≠6 by decide) rfl
def bare (b:Bool):Hist:=⟨[],b,none0⟩
theorem bare_row (b:Bool):rowH (bare b)=if b=true then [⟨6,[],[],1⟩,⟨1,emptyK,[],0⟩] else none0:=by
 cases b with
 | false=> rfl
 | true=>
  have:=ObjIs.add none_is (key:=emptyK) (v:=⟨1,[],[],0⟩) (l:=[]) (one_right (own_true valid_none (by decide) (fun _=> rfl)) (by decide)) (own_true empty_valid (by decide) (fun h=> by cases h)) (fun h=> by cases h) (by decide)
  exact this.1.eq
theorem bare_ok (b:Bool):okH (bare b)=true:=by
 unfold okH
 rw [show (bare b).rest=none0 from rfl,show (bare b).who=[]from rfl,none_plain,valid_none]
 rfl
theorem sh_none {k:Nat}:Short k none0:=fun v hv=> by
 rw [List.mem_singleton.1 hv]
 exact ⟨Nat.zero_le _,Nat.zero_le _⟩
end Jo
end Go.Proofs.YtgmangikcfakgaaGreatDoor
namespace Go.Proofs.YtgmangikcfakgaaGreatDoor
open Go
namespace Jo
open Jt Js
def ones (r:List V):List (List V):=r.map fun v=> [v]
theorem digO_not {v:V} {l:List V} (h:¬v.kind=4):digO (v::l)=none:=by
 unfold digO tellF
 rw [if_neg (show ¬kindOf (v::l)=4 from h)]
 rfl
theorem digO_one {v:V} {l:List V} (h:v.kind=4):digO (v::l)=Dg.parse v.text:=by
 unfold digO tellF
 rw [if_pos (show kindOf (v::l)=4 from h)]
 rfl
theorem leaf_str {d:Nat} {o:Bool} {v:V} {l:List V} {t:List UInt8} (h:One d o v l t) (h4:v.kind=4):l=[]:=by
 obtain ⟨ks,h1,h2,_⟩:=h.kids
 have hc:v.count=0:=by
  rcases h.own.2.2 with ⟨_,_,e⟩ | ⟨_,_,_,e⟩ | ⟨_,_,e⟩ | ⟨e,_,_⟩
  ·exact e
  ·exact e
  ·exact e
  ·omega
 rw [hc]at h2
 have:ks=[]:=List.eq_nil_of_length_eq_zero (by omega)
 subst this
 exact (rows_none h1 rfl).1
theorem ids_flat {d:Nat} {ks:List (List UInt8)} {P:List (List V)} (h:Parts d false ks P):allO digO P=allO digO (ones P.flatten):=by
 induction h with
 | nil=> rfl
 | @cons v l t ks P h r ih=>
  rw [List.flatten_cons]
  by_cases h4:v.kind=4
  ·obtain rfl:=leaf_str h h4
   show allO digO ([v]::P)=allO digO ([v]::ones P.flatten)
   rw [allO,allO,ih]
  ·show allO digO ((v::l)::P)=allO digO ([v]::ones (l++P.flatten))
   rw [allO,allO,digO_not h4,digO_not h4]
   rfl
theorem ids_list {X:List V} (hr:rightPF X=true):listO digO X=if kindOf X=5 then allO digO (ones (X.drop 1)) else none:=by
 unfold listO
 by_cases h5:kindOf X=5
 ·rw [if_pos h5,if_pos h5]
  obtain ⟨v,Q,rfl,he,hn,_,⟨ks,_,hq,_⟩,hl⟩:=right_whole hr
  have hk5:v.kind=5:=h5
  rw [show isObj v=false from decide_eq_false (by omega)]at hq
  rw [list_parts hq (by rw [←hq.len];exact hn)]
  exact ids_flat hq
 ·rw [if_neg h5,if_neg h5]
def byO (L:List V):Option (List UInt8):=if ofKey L byK=[] then some [] else tellF 4 (ofKey L byK)
def emO (L:List V):Option Bool:=if ofKey L emptyK=[] then some false else if kindOf (ofKey L emptyK)=1 then some true else if kindOf (ofKey L emptyK)=2 then some false else none
theorem by_none {L:List V} (h:getA L 0 byK=none):byO L=some []:=if_pos (key_none h)
theorem by_at {L:List V} {p:Nat} (h:getA L 0 byK=some p) {hp:p < L.length}:byO L=if L[p].kind=4 then some L[p].text else none:=by
 obtain ⟨_,hne,_,_,h1,h2⟩:=key_at h
 unfold byO tellF
 rw [if_neg hne,h1,h2]
theorem em_none {L:List V} (h:getA L 0 emptyK=none):emO L=some false:=if_pos (key_none h)
theorem em_at {L:List V} {p:Nat} (h:getA L 0 emptyK=some p) {hp:p < L.length}:emO L=if L[p].kind=1 then some true else if L[p].kind=2 then some false else none:=by
 obtain ⟨_,hne,_,_,h1,_⟩:=key_at h
 unfold emO
 rw [if_neg hne,h1]
def entryO (L:List V):Option (List UInt8)→Option Bool→Option Hist
 | some x,some y=> if kindOf L=6 then some ⟨x,y,srt (dropA (dropA L byK) emptyK)⟩ else none
 | _,_=> none
theorem entryO_left (L:List V) (b:Option Bool):entryO L none b=none:=by cases b <;> rfl
theorem entryO_not {L:List V} (h:¬kindOf L=6) (a:Option (List UInt8)) (b:Option Bool):entryO L a b=none:=by
 cases a with
 | none=> exact entryO_left L b
 | some x=> cases b with
  | none=> rfl
  | some y=> exact if_neg h
theorem entry_two {L:List V} (hr:rightPF L=true) {a:Option (List UInt8)} {b:Option Bool} (ha:byO L=a) (hb:emO L=b):entryF L=entryO L a b:=by
 have hO:isO L=decide (kindOf L=6):=by unfold isO;rw [hr,Bool.true_and]
 by_cases h6:kindOf L=6
 case neg=>
  rw [entryO_not h6]
  exact entry_not h6
 rw [decide_eq_true h6]at hO
 unfold entryF
 unfold byO tellF at ha
 unfold emO at hb
 have e1:(ofKey L byK=[]∨kindOf (ofKey L byK)=4)↔a.isSome=true:=by
  subst ha
  by_cases c1:ofKey L byK=[]
  ·rw [if_pos c1];exact ⟨fun _=> rfl,fun _=> .inl c1⟩
  ·rw [if_neg c1]
   by_cases c2:kindOf (ofKey L byK)=4
   ·rw [if_pos c2];exact ⟨fun _=> rfl,fun _=> .inr c2⟩
   ·rw [if_neg c2];exact ⟨fun h=> (h.elim c1 c2).elim,fun h=> by cases h⟩
 have e2:(ofKey L emptyK=[]∨kindOf (ofKey L emptyK)=1∨kindOf (ofKey L emptyK)=2)↔b.isSome=true:=by
  subst hb
  by_cases c1:ofKey L emptyK=[]
  ·rw [if_pos c1];exact ⟨fun _=> rfl,fun _=> .inl c1⟩
  ·rw [if_neg c1]
   by_cases c2:kindOf (ofKey L emptyK)=1
   ·rw [if_pos c2];exact ⟨fun _=> rfl,fun _=> .inr (.inl c2)⟩
   ·rw [if_neg c2]
    by_cases c3:kindOf (ofKey L emptyK)=2
    ·rw [if_pos c3];exact ⟨fun _=> rfl,fun _=> .inr (.inr c3)⟩
    ·rw [if_neg c3];exact ⟨fun h=> (h.elim c1 (fun h=> h.elim c2 c3)).elim,fun h=> by cases h⟩
 cases a with
 | none=>
  rw [entryO_left]
  exact if_neg fun h=> by have:=e1.1 h.2.1;cases this
 | some x=> cases b with
  | none=> exact if_neg fun h=> by have:=e2.1 h.2.2;cases this
  | some y=>
   rw [if_pos ⟨hO,e1.2 rfl,e2.2 rfl⟩]
   have t1:textOf (ofKey L byK)=x:=by
    by_cases c1:ofKey L byK=[]
    ·rw [if_pos c1]at ha
     rw [c1]
     exact Option.some.inj ha
    ·rw [if_neg c1]at ha
     split at ha
     ·exact Option.some.inj ha
     ·cases ha
   have t2:decide (kindOf (ofKey L emptyK)=1)=y:=by
    by_cases c1:ofKey L emptyK=[]
    ·rw [if_pos c1]at hb
     rw [c1]
     exact Option.some.inj hb
    ·rw [if_neg c1]at hb
     by_cases c2:kindOf (ofKey L emptyK)=1
     ·rw [if_pos c2]at hb
      rw [decide_eq_true c2]
      exact Option.some.inj hb
     ·rw [if_neg c2]at hb
      rw [decide_eq_false c2]
      split at hb
      ·exact Option.some.inj hb
      ·cases hb
   rw [t1,t2]
   exact (if_pos h6).symm
def rowX (h:Hist):List V:=if okH h=true then rowH h else []
theorem right_nil:rightPF []=false:=by
 cases h:rightPF []with
 | false=> rfl
 | true=> exact absurd (right_pos h) (Nat.lt_irrefl _)
theorem setA_nil (L:List V) (key:List UInt8):setA L key []=[]:=by
 unfold setA
 exact if_neg fun h=> by rw [right_nil]at h;cases h.2
theorem sortA_nil:sortA []=[]:=by
 unfold sortA
 exact if_neg (by rw [right_nil];exact fun h=> by cases h)
theorem row_prog {c:Cfg} (hp:plainF c.rest rootK histK=true) (h1:c.ids.length≤60) (h2:c.hist.length≤200) (h3:0 < c.hist.length→layersN c.hist=c.ids.length):
  rowC c=sortA (if c.hist=[] then setA c.rest rootK (rootV c.ids) else setA (setA c.rest rootK (rootV c.ids)) histK (listA (c.hist.map rowX))):=by
 have hok:okC c=c.hist.all okH:=by
  unfold okC
  rw [hp,decide_eq_true h1,decide_eq_true h2,decide_eq_true h3]
  rfl
 unfold rowC
 rw [hok]
 cases ha:c.hist.all okH with
 | true=>
  rw [if_pos rfl]
  have e:c.hist.map rowX=c.hist.map rowH:=List.map_congr_left fun h hm=> if_pos (List.all_eq_true.1 ha h hm)
  rw [e]
  rfl
 | false=>
  rw [if_neg (fun h=> by cases h)]
  obtain ⟨h,hm,hb⟩:∃h∈c.hist,¬okH h=true:=by
   refine Classical.byContradiction fun hn=> ?_
   have:c.hist.all okH=true:=List.all_eq_true.2 fun h hm=> Classical.byContradiction fun hb=> hn ⟨h,hm,hb⟩
   rw [ha]at this
   cases this
  have hne:¬c.hist=[]:=fun e=> by rw [e]at hm;cases hm
  have hl:listA (c.hist.map rowX)=[]:=by
   unfold listA
   refine if_neg fun hr=> ?_
   have:=List.all_eq_true.1 hr (rowX h) (List.mem_map.2 ⟨h,hm,rfl⟩)
   unfold rowX at this
   rw [if_neg hb,right_nil]at this
   cases this
  rw [if_neg hne,hl,setA_nil,sortA_nil]
theorem row_off {c:Cfg} (h:plainF c.rest rootK histK=false∨¬c.ids.length≤60∨¬c.hist.length≤200∨¬(0 < c.hist.length→layersN c.hist=c.ids.length)):rowC c=[]:=by
 refine row_no14 ?_
 unfold okC
 rcases h with h | h | h | h
 ·rw [h];rfl
 ·rw [decide_eq_false h,Bool.and_false];rfl
 ·rw [decide_eq_false h,Bool.and_false];rfl
 ·rw [decide_eq_false h,Bool.and_false];rfl
theorem sum_rowX:∀H:List Hist,(H.map rowX).flatten.length≤(H.map rowH).flatten.length
 | []=> Nat.le_refl _
 | h::H=> by
  have ih:=sum_rowX H
  rw [List.map_cons,List.map_cons,List.flatten_cons,List.flatten_cons,List.length_append,List.length_append]
  have:(rowX h).length≤(rowH h).length:=by
   unfold rowX
   split
   ·exact Nat.le_refl _
   ·exact Nat.zero_le _
  omega
theorem plain_seen {L:List V} {a b:List UInt8} (h0:0 < L.length) (hk:kindOf L=6) (hs:sortA L=L):plainF L a b=(decide (getA L 0 a=none) && decide (getA L 0 b=none)):=by
 have hr:rightPF L=true:=by
  cases h:rightPF L with
  | true=> rfl
  | false=>
   unfold sortA at hs
   rw [if_neg (by rw [h];exact fun e=> by cases e)]at hs
   rw [←hs]at h0
   exact absurd h0 (Nat.lt_irrefl _)
 unfold plainF isO
 rw [hr,decide_eq_true hk,←sort_yes hr,decide_eq_true hs,Bool.and_true]
 rfl
theorem plain_unsorted {L:List V} {a b:List UInt8} (hs:sortA L≠L):plainF L a b=false:=by
 cases hr:rightPF L with
 | false=> exact plain_no hr
 | true=>
  unfold plainF
  rw [←sort_yes hr,decide_eq_false hs,Bool.and_false]
theorem plain_kind {L:List V} {a b:List UInt8} (h:kindOf L≠6):plainF L a b=false:=by
 unfold plainF isO
 rw [decide_eq_false h,Bool.and_false]
 rfl
end Jo
end Go.Proofs.YtgmangikcfakgaaGreatDoor
namespace Go.Proofs.YtgmangikcfakgaaGreatDoor
open Go.RowKit Sh Jt Js
set_option maxRecDepth 100000 in
set_option maxHeartbeats 4000000 in
theorem mt_equal (w:World) (A1 A2:Option Addr) (n1 c1 n2 c2:Nat) (L M:List V) (hL:ValsAt w A1 n1 c1 L) (hM:ValsAt w A2 n2 c2 M) (hn:n1≤140737488351232) (hn2:n2≤140737488351232):
  Calls Tryz.prog 111 #[.slice A1 n1 c1, .slice A2 n2 c2] w fun e w'=> e= .returned (.bool (decide (L=M)))∧∃m,w'=w.drewN m:=by
 have HL:=Lib.hid hL
 have HM:=Lib.hid hM
 have hlen:=hL.len
 have hlen2:=hM.len
 clear hL hM
 by_cases hne:n1=n2
 ·subst hne
  go_enter Tryz.func111,Tryz.ntmps111
  go_wp2_with fail
  go_loopw [13] (fun i wr=> ∃k m:Nat,k≤n1∧i= .int .i64 k∧Hid (L.take k=M.take k)∧wr=w.drewN m) (fun i _=> n1 - (intOf i).toNat)
  case atStart=> exact ⟨0,0,Nat.zero_le _,rfl,Lib.hid rfl,rfl⟩
  case round=>
   obtain ⟨k,m,hk,rfl,HO,rfl⟩:=hrel
   by_cases hlt:k < n1
   ·obtain ⟨b,o,rfl,hbl,_⟩:=HL.out.at_ (by omega)
    obtain ⟨b2,o2,rfl,hbl2,_⟩:=HM.out.at_ (by omega)
    have hkl:k < L.length:=by omega
    have hkm:k < M.length:=by omega
    obtain ⟨x0,x1,x2,x3⟩:=HL.out.cells hkl
    obtain ⟨y0,y1,y2,y3⟩:=HM.out.cells hkm
    have hlt':(k:Int) < (n1:Int):=by omega
    have q1:=js_str_eq L[k].key M[k].key
    have q2:=js_str_eq L[k].text M[k].text
    have HT:=Lib.hid (And.intro (List.take_succ_eq_append_getElem hkl) (List.take_succ_eq_append_getElem hkm))
    have HG:=Lib.hid (show L=M→L[k]=M[k]from fun h=> by subst h;rfl)
    generalize L[k]=p at*
    generalize M[k]=q at*
    by_cases he:p=q
    ·subst he
     have HS:=Lib.hid (show L.take (k+1)=M.take (k+1)by rw [HT.out.1,HT.out.2,HO.out])
     generalize sb p.key=s1 at*
     generalize sb p.text=s2 at*
     generalize p.kind=s3 at*
     generalize p.count=s4 at*
     have hq:∀W,(Op.equalIn 10000 72 (.agg #[.int .i64 s3, .string s1, .string s2, .int .i64 s4]) (.agg #[.int .i64 s3, .string s1, .string s2, .int .i64 s4])).run Tryz.prog W= .ok true W:=fun W=> by
      have:=js_eq W s3 s3 s4 s4 s1 s2 s1 s2
      simpa using this
     clear q1 q2 HT HG
     go_upto_region 6 with fail
     go_quiet (fail)
     rw [World.drewN_drewN]
     go_wp2_with fail
     go_roundw
     case rel=> exact ⟨k+1,m+nq,by omega,by go_num,HS,rfl⟩
     case measure=> simp [intOf] <;> omega
    ·have HN:=Lib.hid (show decide (L=M)=false from decide_eq_false fun h=> he (HG.out h))
     have hz:(((p.kind==q.kind) && ((sb p.key).toList==(sb q.key).toList)) && (((sb p.text).toList==(sb q.text).toList) && (p.count==q.count)))=false:=by
      rw [q1,q2]
      cases h0:(p.kind==q.kind)with
      | false=> rfl
      | true=>
       cases h1:(p.key==q.key)with
       | false=> rfl
       | true=>
        cases h2:(p.text==q.text)with
        | false=> rfl
        | true=>
         cases h3:(p.count==q.count)with
         | false=> rfl
         | true=>
          refine absurd ?_ he
          obtain ⟨a1,a2,a3,a4⟩:=p
          obtain ⟨b1,b2,b3,b4⟩:=q
          obtain rfl:=LawfulBEq.eq_of_beq h0
          obtain rfl:=LawfulBEq.eq_of_beq h1
          obtain rfl:=LawfulBEq.eq_of_beq h2
          obtain rfl:=LawfulBEq.eq_of_beq h3
          rfl
     have hq:∀W,(Op.equalIn 10000 72 (.agg #[.int .i64 p.kind, .string (sb p.key), .string (sb p.text), .int .i64 p.count]) (.agg #[.int .i64 q.kind, .string (sb q.key), .string (sb q.text), .int .i64 q.count])).run Tryz.prog W= .ok false W:=fun W=> by
      rw [js_eq,hz]
     clear q1 q2 HT HG hz
     generalize sb p.key=s1 at*
     generalize sb p.text=s2 at*
     generalize p.kind=s3 at*
     generalize p.count=s4 at*
     generalize sb q.key=s5 at*
     generalize sb q.text=s6 at*
     generalize q.kind=s7 at*
     generalize q.count=s8 at*
     go_upto_region 6 with fail
     go_quiet (fail)
     rw [World.drewN_drewN]
     go_wp2_with fail
     go_ret
     exact ⟨by rw [HN.out];rfl,_,rfl⟩
   ·obtain rfl:k=n1:=by omega
    have HN:Hid (decide (L=M)=true):=Lib.hid (decide_eq_true (by
     have h:=HO.out
     rwa [List.take_of_length_le (by omega),List.take_of_length_le (by omega)]at h))
    have hge:¬(k:Int) < (k:Int):=by omega
    go_wp2_with fail
    go_ret
    exact ⟨by rw [HN.out];rfl,_,rfl⟩
 ·have HN:=Lib.hid (show decide (L=M)=false from decide_eq_false fun h=> hne (by rw [←hlen,←hlen2,h]))
  have hb:((n1:Int) !=(n2:Int))=true:=bne_iff_ne.2 (by omega)
  clear hne
  go_enter Tryz.func111,Tryz.ntmps111
  go_wp2_with fail
  go_ret
  exact ⟨by rw [HN.out];rfl,0,rfl⟩
end Go.Proofs.YtgmangikcfakgaaGreatDoor
namespace Go.Proofs
open Go.Shelf
def Tryz.sortR_ren:Go.Shelf.Ren:=⟨fun | 6=> 86 | 15=> 123 | 14=> 122 | 28=> 162 | 29=> 163 | 20=> 154 | 21=> 155 | 22=> 156 | 23=> 157 | 24=> 158 | 25=> 159 | 26=> 160 | 27=> 161 | 46=> 184 | 47=> 185 | 48=> 186 | 49=> 187 | 50=> 188 | 57=> 196 | n=> n,fun | 22=> 69 | 24=> 26 | 25=> 109 | 3=> 3 | 39=> 141 | 0=> 0 | 53=> 144 | 55=> 182 | 4=> 4 | 46=> 175 | 45=> 174 | 50=> 113 | 5=> 5 | 9=> 9 | 66=> 200 | 70=> 204 | 76=> 207 | 77=> 104 | n=> n,fun | n=> n⟩
theorem Tryz.sortR:Go.Proofs.SlLaysF.n6 Tryz.prog Tryz.sortR_ren:= {
 mixed:=by kernel_rfl
 f6:=⟨Tryz.f86.name,by decide,Tryz.func86.trans (congrArg some (by kernel_rfl))⟩
 f14:=⟨Tryz.f122.name,by decide,Tryz.func122.trans (congrArg some (by kernel_rfl))⟩
 f15:=Tryz.func123.trans (congrArg some (by kernel_rfl))
 f20:=⟨Tryz.f154.name,by decide,Tryz.func154.trans (congrArg some (by kernel_rfl))⟩
 f21:=⟨Tryz.f155.name,by decide,Tryz.func155.trans (congrArg some (by kernel_rfl))⟩
 f22:=⟨Tryz.f156.name,by decide,Tryz.func156.trans (congrArg some (by kernel_rfl))⟩
 f23:=⟨Tryz.f157.name,by decide,Tryz.func157.trans (congrArg some (by kernel_rfl))⟩
 f24:=⟨Tryz.f158.name,by decide,Tryz.func158.trans (congrArg some (by kernel_rfl))⟩
 f25:=⟨Tryz.f159.name,by decide,Tryz.func159.trans (congrArg some (by kernel_rfl))⟩
 f26:=⟨Tryz.f160.name,by decide,Tryz.func160.trans (congrArg some (by kernel_rfl))⟩
 f27:=⟨Tryz.f161.name,by decide,Tryz.func161.trans (congrArg some (by kernel_rfl))⟩
 f28:=Tryz.func162.trans (congrArg some (by kernel_rfl))
 f29:=Tryz.func163.trans (congrArg some (by kernel_rfl))
 f46:=⟨Tryz.f184.name,by decide,Tryz.func184.trans (congrArg some (by kernel_rfl))⟩
 f47:=Tryz.func185.trans (congrArg some (by kernel_rfl))
 f48:=Tryz.func186.trans (congrArg some (by kernel_rfl))
 f49:=⟨Tryz.f187.name,by decide,Tryz.func187.trans (congrArg some (by kernel_rfl))⟩
 f50:=⟨Tryz.f188.name,by decide,Tryz.func188.trans (congrArg some (by kernel_rfl))⟩
 f57:=⟨Tryz.f196.name,by decide,Tryz.func196.trans (congrArg some (by kernel_rfl))⟩
 t0:=Tryz.underlying0
 a0:=Tryz.isAgg0
 z0:=Tryz.sizeOf0
 v0:=Tryz.zeroValue0
 t3:=Tryz.underlying3
 a3:=Tryz.isAgg3
 z3:=Tryz.sizeOf3
 v3:=Tryz.zeroValue3
 t4:=Tryz.underlying4
 a4:=Tryz.isAgg4
 z4:=Tryz.sizeOf4
 v4:=Tryz.zeroValue4
 t5:=Tryz.underlying5
 a5:=Tryz.isAgg5
 z5:=Tryz.sizeOf5
 v5:=Tryz.zeroValue5
 t9:=Tryz.underlying9
 a9:=Tryz.isAgg9
 z9:=Tryz.sizeOf9
 v9:=Tryz.zeroValue9
 t22:=Tryz.underlying69
 a22:=Tryz.isAgg69
 z22:=Tryz.sizeOf69
 v22:=Tryz.zeroValue69
 a24:=Tryz.isAgg26
 z24:=Tryz.sizeOf26
 t25:=Tryz.underlying109
 a25:=Tryz.isAgg109
 z25:=Tryz.sizeOf109
 v25:=Tryz.zeroValue109
 t39:=Tryz.underlying141
 a39:=Tryz.isAgg141
 z39:=Tryz.sizeOf141
 v39:=Tryz.zeroValue141
 t45:=Tryz.underlying174
 a45:=Tryz.isAgg174
 z45:=Tryz.sizeOf174
 v45:=Tryz.zeroValue174
 t46:=Tryz.underlying175
 a46:=Tryz.isAgg175
 z46:=Tryz.sizeOf175
 v46:=Tryz.zeroValue175
 t50:=Tryz.underlying113
 a50:=Tryz.isAgg113
 z50:=Tryz.sizeOf113
 v50:=Tryz.zeroValue113
 t53:=Tryz.underlying144
 a53:=Tryz.isAgg144
 z53:=Tryz.sizeOf144
 v53:=Tryz.zeroValue144
 t55:=Tryz.underlying182
 a55:=Tryz.isAgg182
 z55:=Tryz.sizeOf182
 v55:=Tryz.zeroValue182
 t66:=Tryz.underlying200
 a66:=Tryz.isAgg200
 z66:=Tryz.sizeOf200
 v66:=Tryz.zeroValue200
 t70:=Tryz.underlying204
 a70:=Tryz.isAgg204
 z70:=Tryz.sizeOf204
 v70:=Tryz.zeroValue204
 t76:=Tryz.underlying207
 a76:=Tryz.isAgg207
 z76:=Tryz.sizeOf207
 v76:=Tryz.zeroValue207
 t77:=Tryz.underlying104
 a77:=Tryz.isAgg104
 z77:=Tryz.sizeOf104
 v77:=Tryz.zeroValue104}
end Go.Proofs
namespace Go.Proofs.YtgmangikcfakgaaGreatDoor
open Go.RowKit Go.Shelf Go.Lib Sh Jt Js
theorem cmp_lt:∀a b:List UInt8,decide (Lib.compareBytes a b < 0)=ltF a b
 | [],[]=> rfl
 | [],_::_=> rfl
 | _::_,[]=> rfl
 | x::a,y::b=> by
  have ih:=cmp_lt a b
  have hc:Lib.compareBytes (x::a) (y::b)=if x < y then -1 else if y < x then 1 else Lib.compareBytes a b:=rfl
  have hl:ltF (x::a) (y::b)=if x=y then ltF a b else decide (x.toNat < y.toNat):=rfl
  rw [hl]
  by_cases e:x=y
  ·subst e
   rw [if_neg (UInt8.lt_irrefl x),if_neg (UInt8.lt_irrefl x)]at hc
   rw [hc,if_pos rfl]
   exact ih
  ·rw [if_neg e]
   by_cases h1:x < y
   ·rw [if_pos h1]at hc
    rw [hc,decide_eq_true (UInt8.lt_iff_toNat_lt.1 h1)]
    rfl
   ·have h3:¬x.toNat < y.toNat:=fun h=> h1 (UInt8.lt_iff_toNat_lt.2 h)
    have h4:x.toNat≠y.toNat:=fun h=> e (UInt8.toNat_inj.1 h)
    have h2:y < x:=UInt8.lt_iff_toNat_lt.2 (by omega)
    rw [if_neg h1,if_pos h2]at hc
    rw [hc,decide_eq_false h3]
    rfl
theorem lt_ntrans (x y z:List UInt8) (h1:ltF x y=false) (h2:ltF y z=false):ltF x z=false:=by
 cases h:ltF x z with
 | false=> rfl
 | true=>
  by_cases e:x=y
  ·rw [e,h2]at h
   cases h
  ·rw [Js.lt_trans y x z (Js.lt_total x y e h1) h]at h2
   cases h2
theorem kept_sort {α:Type} [Inhabited α] (enc:α→Value) (w:World) (g n:Nat) (d:Array α) (os:Array Obj):Kept w (sortWorld enc w g 0 n d os) (·=g):=by
 have hsz:(Sort.putRow enc (Sort.ahead w n) g 0 d).heap.size=w.heap.size:=Sort.size_putRow _ _ _ _ _
 refine ⟨rfl,rfl,rfl,by rw [sortWorld,Go.Sort.size_grow,hsz];omega,fun i hi hne=> ?_⟩
 rw [sortWorld,Sort.heap_grow_old _ _ (by rw [hsz];exact hi)]
 show ((Sort.ahead w n).heap.modify g _)[i]? =_
 rw [Array.getElem?_modify,if_neg (fun e=> hne e.symm)]
 rfl
set_option maxRecDepth 100000 in
set_option maxHeartbeats 1000000 in
theorem js_cmp (W:World) (b:Nat) (p q:Pt) (hp:PtIn W b p) (hq:PtIn W b q):
  Calls Tryz.prog 87 #[p.enc b,q.enc b] W fun e w'=> e= .returned (.int .i64 (Lib.compareBytes (ptKey p) (ptKey q)))∧∃k,w'=W.drewN k:=by
 have c1:=hp.key
 have c2:=hq.key
 have h1:(0:Int) < (p.row.length:Int):=by have:=hp.1;omega
 have h2:(0:Int) < (q.row.length:Int):=by have:=hq.1;omega
 have hcon:Hid (∀W',Calls Tryz.prog 88 #[.string (sb (ptKey p)), .string (sb (ptKey q))] W' fun e w'=> e= .returned (.int .i64 (Lib.compareBytes (ptKey p) (ptKey q)))∧w'=W'):=Lib.hid (fun W'=> by
  have:=Tryz.strings_Compare (sb (ptKey p)) (sb (ptKey q)) W'
  have e:∀l,(sb l).data.toList=l:=fun l=> by rw [sb]
  rw [e,e]at this
  exact this)
 clear hp hq
 unfold Pt.enc
 generalize Lib.compareBytes (ptKey p) (ptKey q)=r at*
 generalize sb (ptKey p)=s1 at*
 generalize sb (ptKey q)=s2 at*
 generalize p.row.length=n1 at*
 generalize q.row.length=n2 at*
 generalize p.cap=k1 at*
 generalize q.cap=k2 at*
 generalize p.off=o1 at*
 generalize q.off=o2 at*
 go_enter Tryz.func87,Tryz.ntmps87
 go_wp2_with fail
 go_quiet ((go_at_call 88;exact Calls.quiet_of_same (hcon.out _)))
 go_wp2_with fail
 go_ret
 exact ⟨rfl,_,rfl⟩
theorem lift_pts {w:World} {b:Nat}:∀Q:List Pt,(∀p∈Q,PtIn w b p)→∃D:List {p:Pt // PtIn w b p},D.map (·.1)=Q
 | [],_=> ⟨[],rfl⟩
 | p::r,h=> by
  obtain ⟨D,hD⟩:=lift_pts r (fun q hq=> h q (List.mem_cons_of_mem _ hq))
  exact ⟨⟨p,h p List.mem_cons_self⟩::D,by rw [List.map_cons,hD]⟩
theorem js_sort (w:World) (B b g n:Nat) (Q:List Pt) (hR:RowsAt w B b (some ⟨g,0,none⟩) n Q) (hg:g < w.heap.size) (hbg:b≠g) (p0:Pt) (h0:PtIn w b p0) (hn:n < 4611686018427387904):
  Calls Tryz.prog 86 #[.slice (some ⟨g,0,none⟩) n n, .func (.func 87) #[] #[]] w fun e w'=>
   e= .returned (.tuple #[])∧∃Q',Hid (Q'.Perm Q∧Q'.Pairwise fun p q=> ltF (ptKey q) (ptKey p)=false)∧Hid (RowsAt w' B b (some ⟨g,0,none⟩) n Q'∧Kept w w' (·=g)):=by
 obtain ⟨D,hD⟩:=lift_pts (w:=w) (b:=b) Q hR.ins
 letI:Inhabited {p:Pt // PtIn w b p}:=⟨⟨p0,h0⟩⟩
 have hDl:D.length=n:=by rw [←hR.len,←hD,List.length_map]
 have hH:Sort.Holds (fun x: {p:Pt // PtIn w b p}=> x.1.enc b) w g 0 D.toArray:=by
  intro j hj
  rw [List.size_toArray]at hj
  obtain ⟨g',e,_,rr⟩:=hR.at_ (by omega)
  cases e
  have e1:D.toArray[j]! =D[j]:=by simp [hj]
  refine ⟨?_, ?_⟩
  ·rw [Nat.zero_add,e1]
   refine rr.cell ?_
   rw [←hD,List.map_map,List.getElem?_map,List.getElem?_eq_getElem hj]
   rfl
  ·exact rr.frozen _
 have eg:∀args w,(callFunc 87 args).run Tryz.prog w= .ok (.enter 87 args) w:=enters_of Tryz.func87 (by kernel_rfl) rfl
 have hKS:=fun (m:Nat) (os:Array Obj) (dk:Array {p:Pt // PtIn w b p})=> kept_sort (fun x: {p:Pt // PtIn w b p}=> x.1.enc b) w g m dk os
 have hin:∀(m:Nat) (os:Array Obj) (dk:Array {p:Pt // PtIn w b p}) (x: {p:Pt // PtIn w b p}),PtIn (sortWorld (fun x: {p:Pt // PtIn w b p}=> x.1.enc b) w g 0 m dk os) b x.1:=fun m os dk x=>
  ⟨x.2.1,x.2.2.kept (hKS m os dk) (fun b' o' e _=> by cases e;exact hbg)⟩
 have hcm:CmpReads Tryz.prog 87 #[] (fun x: {p:Pt // PtIn w b p}=> x.1.enc b) (fun x y=> Lib.compareBytes (ptKey x.1) (ptKey y.1)) g 0 D.toArray.size w:=fun m os dk _ x y=> js_cmp _ b x.1 y.1 (hin m os dk x) (hin m os dk y)
 have hlt:∀x y: {p:Pt // PtIn w b p},ltOf (fun x y: {p:Pt // PtIn w b p}=> Lib.compareBytes (ptKey x.1) (ptKey y.1)) x y=ltF (ptKey x.1) (ptKey y.1):=fun x y=> cmp_lt _ _
 have hO:Sort.SWO (ltOf (fun x y: {p:Pt // PtIn w b p}=> Lib.compareBytes (ptKey x.1) (ptKey y.1))):=⟨fun x=> by rw [hlt];exact Js.lt_irrefl _,fun x y z h1 h2=> by rw [hlt]at*;exact Js.lt_trans _ _ _ h1 h2,fun x y z h1 h2=> by rw [hlt]at*;exact lt_ntrans _ _ _ h1 h2⟩
 have hcon:=Any.slices_SortFunc (P:=Tryz.prog) (ρ:=Tryz.sortR_ren) Tryz.sortR (fun x: {p:Pt // PtIn w b p}=> x.1.enc b) (fun _=> rfl) _ hO 87 #[] g 0 n D.toArray w eg hcm.lays hH hg (by rw [List.size_toArray,hDl];exact hn)
 rw [List.size_toArray,hDl]at hcon
 change Calls Tryz.prog 86 #[.slice (some ⟨g,0,none⟩) n n,_] w _ at hcon
 refine hcon.mono ?_
 rintro e w' ⟨rfl,d',m,os,hp,hs,rfl⟩
 have hsz:d'.size=n:=by rw [hp.1,List.size_toArray,hDl]
 have hperm:d'.toList.Perm D:=by
  have:=hp.2.2
  rw [show D.toArray.extract 0 n=D.toArray by rw [←hDl];simp,show d'.extract 0 n=d' by rw [←hsz];simp]at this
  exact this
 refine ⟨rfl,d'.toList.map (·.1),Lib.hid ⟨by rw [←hD];exact hperm.map _, ?_⟩,Lib.hid ⟨⟨by rw [List.length_map,Array.length_toList,hsz],fun hn0=> ?_, ?_⟩,hKS m os d'⟩⟩
 ·rw [List.pairwise_map,List.pairwise_iff_getElem]
  intro i j hi hj hij
  have h:=hs i j (Nat.zero_le _) hij (by rw [←hsz];simpa using hj)
  rw [hlt]at h
  have e1:d'[j]! =d'.toList[j]:=by simp at hj;simp [hj]
  have e2:d'[i]! =d'.toList[i]:=by simp at hi;simp [hi]
  rw [←e1,←e2]
  exact h
 ·obtain ⟨g',e,hB,rr⟩:=hR.at_ hn0
  cases e
  refine ⟨g,rfl,hB, ?_⟩
  have hH2:=holds_sortWorld (fun x: {p:Pt // PtIn w b p}=> x.1.enc b) w g 0 m D.toArray d' os hg hH (by rw [hsz,List.size_toArray,hDl])
  have hb:(sortWorld (fun x: {p:Pt // PtIn w b p}=> x.1.enc b) w g 0 m d' os).heap[g]? =some (.cells (Sort.putCells (fun x: {p:Pt // PtIn w b p}=> x.1.enc b) 0 d' (Q.map (Pt.enc b)).toArray) 26 (0,0)):=by
   rw [sortWorld,Sort.heap_grow_old _ _ (by rw [Sort.size_putRow];exact hg)]
   show ((Sort.ahead w m).heap.modify g _)[g]? =_
   rw [Array.getElem?_modify,if_pos rfl,show (Sort.ahead w m).heap[g]? =w.heap[g]? from rfl,show w.heap[g]? =_ from rr]
   rfl
  have hps:(Sort.putCells (fun x: {p:Pt // PtIn w b p}=> x.1.enc b) 0 d' (Q.map (Pt.enc b)).toArray).size=n:=by
   rw [Sort.putCells,Array.size_mapIdx,List.size_toArray,List.length_map,hR.len]
  unfold Row
  rw [hb]
  congr 2
  apply Array.ext
  ·rw [hps,List.size_toArray,List.length_map,List.length_map,Array.length_toList,hsz]
  ·intro t h1 h2
   rw [hps]at h1
   have hc:=(hH2 t (by rw [hsz];exact h1)).1
   rw [Nat.zero_add,cell_of_row _ _ _ _ _ _ hb]at hc
   refine Option.some.inj ?_
   rw [←Array.getElem?_eq_getElem,hc,List.getElem_toArray,List.getElem_map,List.getElem_map,getElem!_pos d' t (by rw [hsz];exact h1)]
   rfl
 ·intro p hp2
  obtain ⟨x,_,rfl⟩:=List.mem_map.1 hp2
  exact hin m os d' x
end Go.Proofs.YtgmangikcfakgaaGreatDoor
