import Derived.Test.YtgmangikcfakgaaGreatDoorPA43
set_option maxRecDepth 100000
set_option maxHeartbeats 40000000
namespace Go.Proofs.YtgmangikcfakgaaGreatDoor
open Go.RowKit Sh Jt Js Jo
structure ERowAt (B:Nat) (w:World) (A0 A:Option Addr) (n m c:Nat) (L:List V):Prop where
 vals:ValsAt w A n c L
 far:(A=A0∧0 < m)∨∀b o,A=some ⟨b,o,none⟩→B≤b∧b < w.heap.size
def ERowPost (w:World) (h:Hist) (R:List V) (A0:Option Addr) (e:Ending) (w':World):Prop:=
 ∃A c,e= .returned (.slice A R.length c)∧Hid (ERowAt w.heap.size w' A0 A R.length h.rest.length c R∧Below w.heap.size w w')
theorem qq6 (w:World) (pe:Pe) (hV:ValsAt w pe.rest.at_ pe.rest.row.length pe.rest.cap pe.rest.row) (hl:pe.rest.row.length≤5000) (hs:Short 1048576 pe.rest.row) (hw:pe.who.length≤250000) (hT:TabOk w):
  Calls Tryz.prog 113 #[.agg #[.string (sb pe.who), .bool pe.empty,pe.rest.enc]] w (ERowPost w pe.hist (rowX pe.hist) pe.rest.at_):=by
 obtain ⟨who,em,⟨A0,c0,R0⟩⟩:=pe
 dsimp only at*
 have HV:=Qh (fun W (q:Below w.heap.size w W)=> hV.below q)
 have HT:=Qh (fun W (q:Below w.heap.size w W)=> hT.below q)
 have HRE:=Qh (fun W (q:Below w.heap.size w W)=> qna W A0 R0.length c0 R0 (hV.below q) (by omega) (qar hs (by decide)) (hT.below q) byK emptyK)
 change Hid (∀W,_→Calls _ _ #[_, .string ⟨#[99,114,101,97,116,101,100,95,98,121]⟩, .string ⟨#[101,109,112,116,121,95,108,97,121,101,114]⟩] _ _)at HRE
 have HVS:=Qh (fun W (q:Below w.heap.size w W)=> qj7 who (by omega) W (hT.below q))
 have HTX:=Qh (fun (hv:validF who=true) W=> show Calls _ _ #[.string (sb who)] _ _ from qaj (L:=[⟨4,[],who,0⟩]) (n:=1) rfl (by have:=qiw W who (by omega);rw [qc2 _ hv]at this;exact this))
 have HBX:=Qh (show Row (w.alloc (.cells #[.string (sb who), .bool em, .slice A0 R0.length c0] 42)) w.heap.size 42 [.string (sb who), .bool em, .slice A0 R0.length c0]from Row.new _ _ _)
 have HB0:=Qh (qac w (.cells #[.string (sb who), .bool em, .slice A0 R0.length c0] 42))
 obtain ⟨R,hR⟩:∃R,R=rowX (Pe.hist ⟨who,em,⟨A0,c0,R0⟩⟩):=⟨_,rfl⟩
 have HR:Hid (R=if (plainF R0 byK emptyK && validF who)=true then (if em=true then setA (if who=[] then R0 else setA R0 byK [⟨4,[],who,0⟩]) emptyK [⟨1,[],[],0⟩] else if who=[] then R0 else setA R0 byK [⟨4,[],who,0⟩]) else []):=Qh hR
 have HP0:=Qh (fun (h:plainF R0 byK emptyK=true)=> show 0 < R0.length from by
  obtain ⟨P,hP,_⟩:=qhb h
  exact qav hP.right)
 show Calls _ _ _ w (ERowPost w (Pe.hist ⟨who,em,⟨A0,c0,R0⟩⟩) (rowX (Pe.hist ⟨who,em,⟨A0,c0,R0⟩⟩)) A0)
 rw [←hR]
 have HS:=Qh hs
 clear hR hV hs hT
 go_enter Tryz.func113,Tryz.ntmps113
 go_upto_region 1 with fail
 generalize hW0:w.alloc (Obj.cells #[.string (sb who), .bool em, .slice A0 R0.length c0] 42)=w0 at HBX HB0
 generalize hW:World.alloc _ _=W'
 obtain rfl:w0=W':=hW0.symm.trans hW
 clear hW hW0
 have HBC:=Qh (fun W (q:Below w0.heap.size w0 W)=> show W.cell? ⟨w.heap.size,0,none⟩=some (.string (sb who))∧W.cell? ⟨w.heap.size,1,none⟩=some (.bool em)∧W.cell? ⟨w.heap.size,2,none⟩=some (.slice A0 R0.length c0)from by
  have r:=HBX.out.below q HBX.out.lt
  exact ⟨r.cell (i:=0) rfl,r.cell (i:=1) rfl,r.cell (i:=2) rfl⟩)
 clear HBX
 obtain ⟨x0, -,x2⟩:=HBC.out w0 (Below.refl _ _)
 go_wp2_with fail
 refine (HRE.out w0 HB0.out).mono ?_
 rintro e w1 ⟨rfl,K1⟩
 have B1:=Qh K1.out
 clear K1 HRE x0 x2
 cases hp:plainF R0 byK emptyK with
 | false=>
  have HX:=Qh (show R=[]from by rw [HR.out,hp];exact if_neg (fun h=> by cases h))
  have HF:=Qh (HB0.out.trans (B1.out.mono HB0.out.size))
  clear HR hp HP0 HTX HVS HBC;go_wp2_with fail;go_ret;rw [HX.out];exact ⟨none,0,rfl,Qh ⟨⟨ValsAt.nil _ _ _, .inr (fun b o e=> by cases e)⟩,HF.out⟩⟩
 | true=>
 have hpos:=HP0.out hp
 obtain ⟨x0, -, -⟩:=HBC.out w1 B1.out
 have HVX:=Qh (HVS.out w1 (HB0.out.trans (B1.out.mono HB0.out.size)))
 clear HVS
 obtain ⟨SW,hSW⟩:∃SW,SW=sb who:=⟨_,rfl⟩
 rw [←hSW]at x0 HVX HBC HTX
 have HSW:=Qh hSW
 clear hSW
 go_wp2_with fail
 refine HVX.out.mono ?_
 rintro e w2 ⟨rfl,K2⟩
 have B2:=Qh (B1.out.trans (K2.mono B1.out.size))
 clear K2 HVX B1 x0
 cases hv:validF who with
 | false=>
  have HX:=Qh (show R=[]from by rw [HR.out,hp,hv];exact if_neg (fun h=> by cases h))
  have HF:=Qh (HB0.out.trans (B2.out.mono HB0.out.size))
  clear HR hp hv HP0 HTX HBC;go_wp2_with fail;go_ret;rw [HX.out];exact ⟨none,0,rfl,Qh ⟨⟨ValsAt.nil _ _ _, .inr (fun b o e=> by cases e)⟩,HF.out⟩⟩
 | true=>
 have HR2:Hid (R=if em=true then setA (if who=[] then R0 else setA R0 byK [⟨4,[],who,0⟩]) emptyK [⟨1,[],[],0⟩] else if who=[] then R0 else setA R0 byK [⟨4,[],who,0⟩]):=Qh (by rw [HR.out,hp,hv];rfl)
 have HTV:=Qh (HTX.out hv)
 clear HR HTX hp hv HP0
 obtain ⟨x0, -,x2⟩:=HBC.out w2 B2.out
 have HX2:=Qh (show ERowAt w.heap.size w2 A0 A0 R0.length R0.length c0 R0 from ⟨HV.out w2 (HB0.out.trans (B2.out.mono HB0.out.size)), .inl ⟨rfl,hpos⟩⟩)
 have HT2:=Qh (fun W (q:Below w2.heap.size w2 W)=> HT.out W (HB0.out.trans ((B2.out.trans (q.mono B2.out.size)).mono HB0.out.size)))
 clear HT HV
 by_cases hw0:who=[]
 ·subst hw0
  have HR2:Hid (R=if em=true then setA R0 emptyK [⟨1,[],[],0⟩] else R0):=HR2
  obtain rfl:SW=⟨#[]⟩:=HSW.out
  go_upto_region 6 with fail;clear x0 x2;have HSX:=Qh (show Short 1048576 R0 from HS.out)
  obtain ⟨-,x1, -⟩:=HBC.out w2 B2.out
  cases em with
  | false=>
   have HRR:Hid (R=R0):=HR2
   have HF:=Qh (HB0.out.trans (B2.out.mono HB0.out.size))
   clear HR2 HSX HT2;go_wp2_with fail;go_ret;have e:R=R0:=HRR.out
   rw [e];exact ⟨A0,c0,rfl,Qh ⟨HX2.out,HF.out⟩⟩
  | true=>
   have HRR:Hid (R=setA R0 emptyK [⟨1,[],[],0⟩]):=HR2
   clear HR2;have HOW:=Qh (qff w2 ⟨1,[],[],0⟩)
   have HBW:=Qh (qac w2 (.cells #[.int .i64 1, .string ⟨#[]⟩, .string ⟨#[]⟩, .int .i64 0] 72))
   change Hid (OwnVals (w2.alloc (.cells #[.int .i64 1, .string ⟨#[]⟩, .string ⟨#[]⟩, .int .i64 0] 72)) _ _ _)at HOW
   go_wp2_with (with_reducible refine qeb rfl _ rfl 1 ⟨#[]⟩ ⟨#[]⟩ 0 rfl ?_)
   obtain ⟨Av,cv,e1,hvv, -⟩:=HOW.out.vals
   simp only [Value.slice.injEq]at e1
   obtain ⟨rfl, -,rfl⟩:=e1
   refine (show Calls _ _ #[_, .string ⟨#[101,109,112,116,121,95,108,97,121,101,114]⟩,_] _ _ from qaj rfl (qh7 _ A0 R0.length c0 R0 (HX2.out.vals.below HBW.out) (by omega) (qar HSX.out (by decide)) (HT2.out _ ((Below.refl _ _).trans (HBW.out.mono (Nat.le_refl _)))) (some ⟨w2.heap.size,0,none⟩) 1 1 [⟨1,[],[],0⟩] hvv (by decide) (qb3 (Nat.zero_le _) (Nat.zero_le _)) emptyK (by decide))).mono ?_
   rintro e w9 ⟨A9,c9,rfl,H9⟩;have B9:=HBW.out.trans (H9.out.2.2.mono HBW.out.size)
   go_wp2_with fail;go_ret;rw [HRR.out];refine ⟨A9,c9,rfl,Qh ⟨⟨H9.out.2.1, .inr (fun b o e=> ?_)⟩,HB0.out.trans ((B2.out.trans (B9.mono B2.out.size)).mono HB0.out.size)⟩⟩
   have:=H9.out.1.block (show (Value.slice A9 _ c9).ownBlock=some b from by rw [e];rfl)
   have h1:=HB0.out.size
   have h2:=B2.out.size
   have h3:=HBW.out.size
   exact ⟨by omega,this.2⟩
 ·have hb:SW.toList.isEmpty=false:=by
   rw [HSW.out,qab];match who,hw0 with
   | [],hw0=> exact absurd rfl hw0
   | _::_,_=> rfl
  have HR2:Hid (R=if em=true then setA (setA R0 byK [⟨4,[],who,0⟩]) emptyK [⟨1,[],[],0⟩] else setA R0 byK [⟨4,[],who,0⟩]):=Qh (by rw [HR2.out,if_neg hw0])
  clear hw0;go_upto_region 5 with fail;go_wp2_with fail;refine (HTV.out w2).mono ?_
  rintro e w3 ⟨A3,c3,rfl,H3⟩;have B3:=Qh (B2.out.trans (H3.out.2.2.mono B2.out.size))
  have K3:=Qh H3.out.2.2
  have HV3:=Qh H3.out.2.1
  have HX3:=Qh (HX2.out.vals.below H3.out.2.2)
  clear H3 B2 HX2 hb x0 x2;have HWS:=Qh (show Short 1048576 [(⟨4,[],who,0⟩:V)]from qb3 (Nat.zero_le _) (by show who.length≤1048576;omega))
  go_wp2_with fail;refine (show Calls _ _ #[_, .string ⟨#[99,114,101,97,116,101,100,95,98,121]⟩,_] _ _ from qaj rfl (qh7 w3 A0 R0.length c0 R0 HX3.out (by omega) (qar HS.out (by decide)) (HT2.out w3 K3.out) A3 1 c3 [⟨4,[],who,0⟩] HV3.out (by decide) (qar HWS.out (by decide)) byK (by decide))).mono ?_
  rintro e w4 ⟨A4,c4,rfl,H4⟩;have B4:=Qh (B3.out.trans (H4.out.2.2.mono B3.out.size))
  have K23:=Qh (K3.out.trans (H4.out.2.2.mono K3.out.size))
  have hx4:=qh6 R0 [⟨4,[],who,0⟩] byK
  have HS4:=Qh (show Short 1048576 (setA R0 byK [⟨4,[],who,0⟩])from qcg HS.out HWS.out (by decide))
  have HX4:=Qh (show ERowAt w.heap.size w4 A0 A4 (setA R0 byK [⟨4,[],who,0⟩]).length R0.length c4 (setA R0 byK [⟨4,[],who,0⟩])from ⟨H4.out.2.1, .inr (fun b o e=> by
   have:=H4.out.1.block (show (Value.slice A4 _ c4).ownBlock=some b from by rw [e];rfl)
   have h1:=HB0.out.size
   have h2:=B3.out.size
   exact ⟨by omega,this.2⟩)⟩)
  clear B3 H4 HV3 HX3 HWS HS K3;generalize setA R0 byK [⟨4,[],who,0⟩]=X4 at*;go_upto_region 6 with fail;have HSX:=Qh (show Short 1048576 X4 from HS4.out)
  obtain ⟨-,x1, -⟩:=HBC.out w4 B4.out
  cases em with
  | false=>
   have HRR:Hid (R=X4):=HR2
   have HF:=Qh (HB0.out.trans (B4.out.mono HB0.out.size))
   clear HR2 HSX HT2;go_wp2_with fail;go_ret;have e:R=X4:=HRR.out
   rw [e];exact ⟨A4,c4,rfl,Qh ⟨HX4.out,HF.out⟩⟩
  | true=>
   have HRR:Hid (R=setA X4 emptyK [⟨1,[],[],0⟩]):=HR2
   clear HR2;have HOW:=Qh (qff w4 ⟨1,[],[],0⟩)
   have HBW:=Qh (qac w4 (.cells #[.int .i64 1, .string ⟨#[]⟩, .string ⟨#[]⟩, .int .i64 0] 72))
   change Hid (OwnVals (w4.alloc (.cells #[.int .i64 1, .string ⟨#[]⟩, .string ⟨#[]⟩, .int .i64 0] 72)) _ _ _)at HOW
   go_wp2_with (with_reducible refine qeb rfl _ rfl 1 ⟨#[]⟩ ⟨#[]⟩ 0 rfl ?_)
   obtain ⟨Av,cv,e1,hvv, -⟩:=HOW.out.vals
   simp only [Value.slice.injEq]at e1
   obtain ⟨rfl, -,rfl⟩:=e1
   refine (show Calls _ _ #[_, .string ⟨#[101,109,112,116,121,95,108,97,121,101,114]⟩,_] _ _ from qaj rfl (qh7 _ A4 X4.length c4 X4 (HX4.out.vals.below HBW.out) (by omega) (qar HSX.out (by decide)) (HT2.out _ (K23.out.trans (HBW.out.mono K23.out.size))) (some ⟨w4.heap.size,0,none⟩) 1 1 [⟨1,[],[],0⟩] hvv (by decide) (qb3 (Nat.zero_le _) (Nat.zero_le _)) emptyK (by decide))).mono ?_
   rintro e w9 ⟨A9,c9,rfl,H9⟩;have B9:=HBW.out.trans (H9.out.2.2.mono HBW.out.size)
   go_wp2_with fail;go_ret;rw [HRR.out];refine ⟨A9,c9,rfl,Qh ⟨⟨H9.out.2.1, .inr (fun b o e=> ?_)⟩,HB0.out.trans ((B4.out.trans (B9.mono B4.out.size)).mono HB0.out.size)⟩⟩
   have:=H9.out.1.block (show (Value.slice A9 _ c9).ownBlock=some b from by rw [e];rfl)
   have h1:=HB0.out.size
   have h2:=B4.out.size
   have h3:=HBW.out.size
   exact ⟨by omega,this.2⟩
structure RowsX (w wx:World) (v:Value) (H:List Hist) (Q:List Pc):Prop where
 own:OwnSls wx w.heap.size v Q
 rows:rowsOf Q=H.map rowX
 below:Below w.heap.size w wx
theorem RowsX.next {w wr w':World} {v:Value} {G:List Hist} {Q:List Pc} (h:RowsX w wr v G Q) (k:Below wr.heap.size wr w'):RowsX w w' v G Q:=⟨h.own.below k,h.rows,h.below.trans (k.mono h.below.size)⟩
theorem qn7 (w:World) (A:Option Addr) (n c:Nat) (P:List Pe) (hP:HistsAt w A n c P) (hn:n≤200) (hF:∀h∈histsOf P,FitH h) (hO:∀h∈histsOf P,h.who.length≤250000∧h.rest.length≤5000) (hsum:((histsOf P).map rowH).flatten.length≤4000) (hT:TabOk w):
  Calls Tryz.prog 77 #[.slice A n c] w fun e w'=> ∃v',e= .returned v'∧Hid (OwnVals w' w.heap.size v' (listA ((histsOf P).map rowX))∧Below w.heap.size w w'):=by
 have hlen:=hP.len
 have HP:=Qh (fun W (q:Below w.heap.size w W)=> hP.below q)
 have HT:=Qh (fun W (q:Below w.heap.size w W)=> hT.below q)
 have HF:=Qh hF
 have HO:=Qh hO
 have HSU:=Qh (Nat.le_trans (qqq (histsOf P)) hsum)
 obtain ⟨X,hX⟩:∃X,X=listA ((histsOf P).map rowX):=⟨_,rfl⟩
 rw [←hX]
 have HX:=Qh hX
 have HH0:=Qh (show RowsX w w (.slice none 0 0) (histsOf (P.take 0)) []from ⟨OwnSls.nil _ _,rfl,Below.refl _ _⟩)
 clear hP hT hF hO hX hsum
 go_enter Tryz.func77,Tryz.ntmps77
 go_wp2_with fail
 go_loopg [3,8] n (fun g v3 v8 wx=> ∃(j:Nat) (Q:List Pc),v8= .int .i64 (j:Int)∧j+g=n∧Hid (Q.length=j)∧Hid (RowsX w wx v3 (histsOf (P.take j)) Q))
 case atStart=> exact ⟨0,[],rfl,by omega,Qh rfl,HH0⟩
 case round=>
  clear HH0;obtain ⟨j,Q,rfl,hjg,HQL,HH⟩:=hrel
  cases gk with
  | zero=>
   obtain rfl:j=n:=by omega
   rw [List.take_of_length_le (by omega)]at HH
   obtain ⟨A5,k5,rfl,hsl⟩:=HH.out.own.sls
   rw [HQL.out]at hsl ⊢
   have HSL:=Qh hsl
   have HRO:=Qh HH.out.rows
   have HBW:=Qh HH.out.below
   clear hsl HH;have hge:¬(j:Int) < (j:Int):=by omega
   have HQS:=Qh (show ∀p∈Q,Short 1000000000 p.row from fun p hp=> by
    have h1:p.row∈rowsOf Q:=List.mem_map.2 ⟨p,hp,rfl⟩
    rw [HRO.out]at h1
    obtain ⟨h,hm,e⟩:=List.mem_map.1 h1
    rw [←e];have:=HO.out h hm
    unfold rowX;split
    ·exact qar (qha (k:=1048576) (by decide) (by omega) (HF.out h hm).rest) (by decide)
    ·exact fun v hv=> by cases hv)
   have HQF:=Qh (show (rowsOf Q).flatten.length≤4000 from by rw [HRO.out];exact HSU.out)
   have HXR:Hid (X=listA (rowsOf Q)):=Qh (by rw [HX.out,HRO.out])
   clear HRO HX HSU HO HF;go_wp2_with fail;refine (qls wr A5 j k5 Q HSL.out (by omega) HQS.out HQF.out (HT.out wr HBW.out)).mono ?_
   rintro e w7 ⟨v7,rfl,H7⟩;go_wp2_with fail;go_ret;exact ⟨_,rfl,Qh ⟨by rw [HXR.out];exact H7.out.1.mono HBW.out.size,HBW.out.trans (H7.out.2.mono HBW.out.size)⟩⟩
  | succ g=>
   have hj:j < P.length:=by omega
   have HPW:=Qh (HP.out wr HH.out.below)
   obtain ⟨b,o,rfl,hb,_⟩:=HPW.out.at_ (by omega)
   have HON:=Qh (HPW.out.one hj)
   have HIN:=Qh (HPW.out.ins _ (List.getElem_mem hj))
   have hpm:(P[j]).hist∈histsOf P:=List.mem_map.2 ⟨_,List.getElem_mem hj,rfl⟩
   obtain ⟨o2,o3⟩:=HO.out _ hpm
   have HPS:=Qh (HF.out _ hpm).rest
   have HLO:=Qh (show 0 < (P[j]).rest.row.length→∀bb oo,(P[j]).rest.at_=some ⟨bb,oo,none⟩→bb < w.heap.size from fun o4 bb oo e=> by
    obtain ⟨b1,o1,e1,h1,_⟩:=((HP.out w (Below.refl _ _)).ins _ (List.getElem_mem hj)).at_ o4
    rw [e1]at e
    cases e
    exact h1)
   have HNX:=Qh (qhj P hj)
   have HRD:=Qh (fun W (q:Below wr.heap.size wr W)=> qq6 W P[j] (HIN.out.below q) o3 HPS.out o2 (HT.out W (HH.out.below.trans (q.mono HH.out.below.size))))
   clear HIN HPS o2 o3 hpm HPW;generalize P[j]=pe at*;have hjn:(j:Int) < (n:Int):=by omega
   have hjp:(0:Int)≤(j:Int):=by omega
   have hb1:=qdx
   go_upto_region 5 with (first
    | ((with_reducible refine qas ?_ 42 (.tmp 10) ?_ b (o+j*3) pe.enc #[.string (sb pe.who), .bool pe.empty,pe.rest.enc] ?_ _ ?_ Tryz.underlying42 ?_ ?_ ?_ ?_);rfl;rfl;go_must (rfl;exact HON.out;rfl;exact qai;rfl))
    | ((with_reducible refine qaf ?_ 42 (.tmp 5) (.tmp 11) ?_ wr.heap.size pe.enc ?_ ?_ hz ?_ ?_ ?_ ?_ ?_);rfl;rfl;go_must (rfl;rfl;rfl;exact Row.at_ _ _ _ rfl rfl;exact qai;exact qbq _ _ _ _ _;intro w2 R2 K2 E2)))
   have KB2:=Qh (show Below wr.heap.size wr w2 from (qaq K2.out).below (Nat.le_refl _) (fun _ _ h=> h))
   have HS2:=Qh (HH.out.next KB2.out)
   have hw2:=KB2.out.size
   have HRX:=Qh (HRD.out w2 KB2.out)
   clear K2 E2 KB2 HRD HH HON;generalize wr.heap.size=q at*;go_wp2_with ((with_reducible refine qas ?_ 42 (.tmp 5) ?_ q 0 pe.enc #[.string (sb pe.who), .bool pe.empty,pe.rest.enc] ?_ _ ?_ Tryz.underlying42 ?_ ?_ ?_ ?_);rfl;rfl;go_must (rfl;exact qan R2.out;rfl;exact qai;rfl))
   refine HRX.out.mono ?_
   rintro e w5 ⟨A5,k5,rfl,H5⟩;have HS5:=Qh (HS2.out.next H5.out.2)
   have HFA:=Qh (show ∀bb oo,A5=some ⟨bb,oo,none⟩→bb < w5.heap.size∧u3.ownBlock≠some bb from fun bb oo e=> by
    have hw9:=HS2.out.below.size
    have hw5:=H5.out.2.size
    rcases H5.out.1.far with ⟨e2,e4⟩ | e2
    ·have h1:=HLO.out e4 bb oo (e2▸e)
     exact ⟨by omega,fun e3=> by have:=HS2.out.own.low e3;omega⟩
    ·obtain ⟨h1,h2⟩:=e2 bb oo e
     exact ⟨h2,fun e3=> by have:=HS2.out.own.lt e3;omega⟩)
   have HV5:=Qh H5.out.1.vals
   clear HRX H5 HS2 HLO R2;generalize hRD:rowX pe.hist=RD at*;have HRDD:=Qh hRD
   clear hRD;go_wp2_with (at_builtin;go_must (with_reducible refine qky rfl _ _ rfl w.heap.size u3 Q rfl (HS5.out.own.below (qac _ _)) w5.heap.size ⟨A5,k5,RD⟩ rfl ((Row.new w5 26 [.slice A5 RD.length k5]).cell rfl) (HV5.out.below (qac _ _)) (fun b o e=> ⟨Nat.lt_of_lt_of_le (HFA.out b o e).1 (qac _ _).size,(HFA.out b o e).2⟩) (by rw [HQL.out];omega) (Nat.le_trans HS5.out.below.size (qac _ _).size) ?_;intro v6 w7 h1 h2))
   go_roundg g
   case measure=> omega
   case rel=> exact ⟨j+1,Q++[⟨A5,k5,RD⟩],by go_num,by omega,Qh (by rw [List.length_append,HQL.out];rfl),Qh ⟨h1.out,by unfold rowsOf;rw [List.map_append,HNX.out,List.map_append,←HS5.out.rows];show rowsOf Q++[RD]=rowsOf Q++[rowX pe.hist];rw [HRDD.out],qkk (HS5.out.below.trans ((qac _ _).mono HS5.out.below.size)) h2.out⟩⟩
namespace Jo
end Jo
end Go.Proofs.YtgmangikcfakgaaGreatDoor
namespace Go.Proofs.YtgmangikcfakgaaGreatDoor
open Go.RowKit Sh Jt Js
theorem Js.PrS.len {L x:List V} {d:Nat} {o:Bool} {T:List UInt8} {i k g:Nat} {u:List UInt8} (h:PrS L x d o T i k g u):u.length≤T.length:=by
 obtain ⟨ks,l,t,_,_,_,h4,h5⟩:=h
 by_cases hi:i=0
 ·rw [(h4 hi).1]
  exact Nat.zero_le _
 ·rw [h5 (by omega),List.length_append]
  omega
end Go.Proofs.YtgmangikcfakgaaGreatDoor
namespace Go.Proofs.YtgmangikcfakgaaGreatDoor
open Go.RowKit Sh Jt Js Jo
def PForm (w:World) (T:List UInt8) (r:Bool) (e:Ending) (w':World):Prop:=∃A c,e= .returned (.tuple #[.slice A T.length c, .bool r])∧Hid (BytesAt w' A T.length c T∧Below w.heap.size w w')
namespace Jo
end Jo
end Go.Proofs.YtgmangikcfakgaaGreatDoor
