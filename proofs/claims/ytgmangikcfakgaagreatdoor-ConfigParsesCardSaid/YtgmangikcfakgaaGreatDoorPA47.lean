import Derived.Test.YtgmangikcfakgaaGreatDoorPA45
import Derived.Test.YtgmangikcfakgaaGreatDoorPA46
import Derived.Lib.ConvBytes
import Derived.Lib.SlBytesConst
set_option maxRecDepth 100000
set_option maxHeartbeats 40000000
namespace Go.Proofs.YtgmangikcfakgaaGreatDoor
open Go.RowKit Sh Jt Js Jo
theorem BytesAt.frontC {w:World} {A:Option Addr} {n c:Nat} {bs:List UInt8} (h:BytesAt w A n c bs) {k:Nat} (hk:k≤n):BytesAt w A k c (bs.take k):=by
 have h1:=h.len
 have h2:=h.cap
 refine ⟨by rw [List.length_take];omega,by omega,fun h0=> ?_⟩
 obtain ⟨b,o,e,hlt,hr⟩:=h.at_ (by omega)
 refine ⟨b,o,e,hlt,fun j v hj=> hr j v ?_⟩
 rw [List.map_take,List.getElem?_take]at hj
 split at hj
 ·exact hj
 ·cases hj
theorem StrsAt.one14 (w:World) (a:List UInt8):StrsAt (w.alloc (.cells #[.string (sb a)] 9)) (some ⟨w.heap.size,0,none⟩) 1 1 [a]:=by
 have r:=Row.new w 9 [.string (sb a)]
 exact ⟨rfl,Nat.le_refl _,fun _=> ⟨_,0,rfl,r.lt,r.range 0 _ (fun j v hj=> by rw [Nat.zero_add];exact hj)⟩⟩
theorem qvp {w:World} {b b' o:Nat} {A1 A2 A3:Option Addr} {n1 n2 n3 c1 c2 c3:Nat} (r:Row w b 28 [.slice A1 n1 c1, .slice A2 n2 c2, .slice A3 n3 c3]) {v:Value} (h:w.cell? ⟨b',o,none⟩=some v) (hv:∀A n c,v≠ .slice A n c):b'≠b:=by
 rintro rfl
 rw [cell_of_row _ _ _ _ _ _ r]at h
 have hm:=Array.mem_of_getElem? h
 simp only [List.mem_toArray,List.mem_cons,List.not_mem_nil,or_false]at hm
 rcases hm with e | e | e
 ·exact hv _ _ _ e
 ·exact hv _ _ _ e
 ·exact hv _ _ _ e
theorem second14 {Q:List Pe} (h:histsOf Q=c14.hist) (hl:1 < Q.length):Q[1].empty=true:=by
 have h2:(histsOf Q)[1]? =c14.hist[1]? :=by rw [h]
 unfold histsOf at h2
 rw [List.getElem?_map,List.getElem?_eq_getElem hl]at h2
 exact congrArg Hist.empty (Option.some.inj h2:Q[1].hist=bare true)
theorem qq0 {ops:Array Oper} {rest:List Oper} {o:Oper} {a:Act} {w:World} {Q:Exit→Act→World→Prop} (hg:o.guard=none) (x y:Operand) (ho:o.op= .buildSlice 25 2 #[(0,x),(1,y)]) (x0 x1 x2 y0 y1 y2:Value) (hx:a.eval x= .agg #[x0,x1,x2]) (hy:a.eval y= .agg #[y0,y1,y2])
  (h:wpList Tryz.prog ops Q rest (a.put o.dst (.slice (some ⟨w.heap.size,0,none⟩) 2 2)) (w.alloc (.cells #[x0,x1,x2,y0,y1,y2] 42))):wpList Tryz.prog ops Q (o::rest) a w:=by
 obtain ⟨i,z,hi,hz,hsz,_,hzc⟩:=qke
 refine wpList_buildSlice hg 25 42 2 #[(0,x),(1,y)] ho #[x0,x1,x2,y0,y1,y2] i z Tryz.underlying25 hi hz (by rw [hsz];decide) (by rw [hsz];decide) ?_ h
 rw [hsz]
 have e:(Array.map (fun (p:Nat×Operand)=> (p.1,a.eval p.2)) #[(0,x),(1,y)]).toList=(([[x0,x1,x2],[y0,y1,y2]].map fun (e:List Value)=> Value.agg e.toArray).zipIdx 0).map fun x=> (x.2,x.1):=by simp [hx,hy]
 show Instr.fill _ _ (Array.map (fun (p:Nat×Operand)=> (p.1,a.eval p.2)) #[(0,x),(1,y)]).toList=_
 rw [e]
 rw [Great.fill_whole (s:=3) (by decide) _ _ (fun v hv=> by
  obtain ⟨e,he,rfl⟩:=List.mem_map.1 hv
  rcases List.mem_cons.1 he with rfl | he
  ·rfl
  ·rw [List.mem_singleton.1 he]
   rfl) (by simp),List.flatMap_map]
 rfl
theorem qv8:Tryz.prog.built 52 [(0, .int .u8 1)]=some (d14.map v8).toArray:=by kernel_rfl
theorem qvf (A:Option Addr) (n c:Nat):Tryz.prog.built 42 [(0, .string ⟨#[120]⟩),(2, .slice A n c)]=some #[.string ⟨#[120]⟩, .bool false, .slice A n c]:=by kernel_rfl
theorem qxn (A:Option Addr) (n c:Nat):Tryz.prog.built 42 [(1, .bool true),(2, .slice A n c)]=some #[.string ⟨#[]⟩, .bool true, .slice A n c]:=by kernel_rfl
theorem hists14 (w:World) {g k:Nat} (h:ValsAt w (some ⟨g,0,none⟩) 1 k none0):HistsAt (w.alloc (.cells #[.string ⟨#[120]⟩, .bool false, .slice (some ⟨g,0,none⟩) 1 k, .string ⟨#[]⟩, .bool true, .slice (some ⟨g,0,none⟩) 1 k] 42)) (some ⟨w.heap.size,0,none⟩) 2 2 [⟨[120],false,⟨some ⟨g,0,none⟩,k,none0⟩⟩,⟨[],true,⟨some ⟨g,0,none⟩,k,none0⟩⟩]:=by
 refine ⟨rfl,Nat.le_refl _,fun _=> ⟨w.heap.size,0,rfl,by simp,fun j u hj=> ?_⟩,fun q hq=> ?_⟩
 ·rw [cell_of_row _ _ _ _ _ _ (heap_alloc_new w _),Nat.zero_add]
  rw [show cellsE [(⟨[120],false,⟨some ⟨g,0,none⟩,k,none0⟩⟩:Pe),⟨[],true,⟨some ⟨g,0,none⟩,k,none0⟩⟩]=[.string ⟨#[120]⟩, .bool false, .slice (some ⟨g,0,none⟩) 1 k, .string ⟨#[]⟩, .bool true, .slice (some ⟨g,0,none⟩) 1 k]from rfl]at hj
  simpa using hj
 ·rcases List.mem_cons.1 hq with rfl | hq
  ·exact h.below (below_alloc' w _)
  ·rw [List.mem_singleton.1 hq]
   exact h.below (below_alloc' w _)
theorem qzp (w:World) (hE:CEnv w):Calls Tryz.prog 8 #[] w fun e w'=> e= .returned (.bool true)∧Hid (Below w.heap.size w w'):=by
 have HE:=Qh (fun W (q:Below w.heap.size w W)=> hE.below q)
 have HN:=Qh (qjn (L:=none0) (n:=1) rfl (by decide) (by have:=qhp w none 0 0 [] ⟨rfl,Nat.le_refl _,fun h=> absurd h (by decide)⟩ (by decide) (fun k hk=> by cases hk) none 0 0 [] ⟨rfl,Nat.le_refl _,fun h=> absurd h (by decide),fun p hp=> by cases hp⟩ (by decide) (fun p hp=> by cases hp) (Nat.zero_le _) hE.tab;rw [show objA [] (rowsOf [])=none0 from qyp]at this;exact this))
 have HT:=Qh (fun W=> show Calls Tryz.prog 26 #[.string ⟨#[108,105,110,117,120]⟩] W _ from qjn (L:=[⟨4,[],linuxK,0⟩]) (n:=1) rfl (by decide) (by have:=qiw W linuxK (by decide);rw [qc2 _ qf1]at this;exact this))
 have hbs:=qcx
 have hbl:=qdx
 clear hE
 have HB0:=Qh (Below.refl w.heap.size w)
 go_enter Tryz.func8,Tryz.ntmps8
 go_wp2_with fail
 refine HN.out.mono ?_
 rintro e w1 ⟨g1,k1,rfl,H1⟩
 have HB1:=Qh H1.out.2.2
 have HV1:=Qh H1.out.2.1
 clear H1 HN HB0
 have HBD:=Qh qv8
 have HDR:=Qh (qjp w1 (g:=d14) (C:=(d14.map v8).toArray) rfl rfl)
 obtain ⟨GG,hGG⟩:∃GG,GG=d14.map v8:=⟨_,rfl⟩
 rw [←hGG]at HBD HDR
 have HGG:=Qh hGG
 clear hGG
 go_wp2_with (first
  | ((with_reducible refine qao ?_ 52 #[(0, .const (.int .u8 1))] ?_ GG.toArray ?_ ?_);rfl;rfl;go_must (refine Eq.trans ?_ HBD.out;kernel_rfl))
  | (with_reducible refine qgt rfl _ rfl d14 GG.toArray (by rw [HGG.out]) rfl rfl ?_)
  | ((with_reducible refine qao ?_ 42 #[(0, .const (.string ⟨#[120]⟩)),(2, .tmp 16)] ?_ #[.string ⟨#[120]⟩, .bool false, .slice (some ⟨g1,0,none⟩) 1 k1] ?_ ?_);rfl;rfl;go_must (refine Eq.trans ?_ (qvf (some ⟨g1,0,none⟩) 1 k1);kernel_rfl))
  | ((with_reducible refine qao ?_ 42 #[(1, .const (.bool true)),(2, .tmp 18)] ?_ #[.string ⟨#[]⟩, .bool true, .slice (some ⟨g1,0,none⟩) 1 k1] ?_ ?_);rfl;rfl;go_must (refine Eq.trans ?_ (qxn (some ⟨g1,0,none⟩) 1 k1);kernel_rfl))
  | (with_reducible refine qq0 rfl _ _ rfl (.string ⟨#[120]⟩) (.bool false) (.slice (some ⟨g1,0,none⟩) 1 k1) (.string ⟨#[]⟩) (.bool true) (.slice (some ⟨g1,0,none⟩) 1 k1) rfl rfl ?_))
 have s1:(w1.alloc (.cells GG.toArray 52)).heap.size=w1.heap.size+1:=by simp
 have HV2:=Qh (HV1.out.below (below_alloc' w1 (.cells GG.toArray 52)))
 have HB2:=Qh (HB1.out.trans ((below_alloc' w1 (.cells GG.toArray 52)).mono HB1.out.size))
 have HH3:=Qh (hists14 _ HV2.out)
 rw [s1]at HH3
 generalize hw2:w1.alloc (.cells GG.toArray 52)=w2 at*
 have s2:(w2.alloc (.cells #[.string ⟨#[120]⟩, .bool false, .slice (some ⟨g1,0,none⟩) 1 k1, .string ⟨#[]⟩, .bool true, .slice (some ⟨g1,0,none⟩) 1 k1] 42)).heap.size=w1.heap.size+1+1:=by rw [←s1];simp
 have KA3:=Qh (below_alloc' w2 (.cells #[.string ⟨#[120]⟩, .bool false, .slice (some ⟨g1,0,none⟩) 1 k1, .string ⟨#[]⟩, .bool true, .slice (some ⟨g1,0,none⟩) 1 k1] 42))
 have HG3:=Qh (HDR.out.below KA3.out)
 have HB3:=Qh (HB2.out.trans (KA3.out.mono HB2.out.size))
 generalize hw3:w2.alloc (.cells #[.string ⟨#[120]⟩, .bool false, .slice (some ⟨g1,0,none⟩) 1 k1, .string ⟨#[]⟩, .bool true, .slice (some ⟨g1,0,none⟩) 1 k1] 42)=w3 at*
 have HK4:=Qh (StrsAt.one14 w3 osK)
 have KA4:=Qh (below_alloc' w3 (.cells #[.string (sb osK)] 9))
 have HG:=Qh (HG3.out.below KA4.out)
 have HH:=Qh (HH3.out.below KA4.out)
 have HB:=Qh (HB3.out.trans (KA4.out.mono HB3.out.size))
 rw [s2]at HK4
 have HK:=HK4
 clear HG3 HH3 HB3 KA4 KA3 HB2 HB1 HV1 HV2 HDR HBD HGG HK4
 change Hid (StrsAt (w3.alloc (.cells #[.string ⟨#[111,115]⟩] 9)) _ _ _ _)at HK
 change Hid (GsAt (w3.alloc (.cells #[.string ⟨#[111,115]⟩] 9)) _ _ _ _)at HG
 change Hid (HistsAt (w3.alloc (.cells #[.string ⟨#[111,115]⟩] 9)) _ _ _ _)at HH
 change Hid (Below _ w (w3.alloc (.cells #[.string ⟨#[111,115]⟩] 9)))at HB
 generalize w3.alloc (.cells #[.string ⟨#[111,115]⟩] 9)=w4 at*
 clear s1 s2 hw2 hw3
 generalize w1.heap.size=q1 at*
 refine (HT.out w4).mono ?_
 rintro e w5 ⟨g5,k5,rfl,H5⟩
 replace HG:=Qh (HG.out.below H5.out.2.2)
 replace HH:=Qh (HH.out.below H5.out.2.2)
 replace HK:=Qh (HK.out.below H5.out.2.2)
 replace HB:=Qh (HB.out.trans ((H5.out.2.2).mono HB.out.size))
 have HV:=Qh H5.out.2.1
 clear H5 HT hbs
 go_wp2_with fail
 have HS:=Qh (show SlsAt (w5.alloc (.cells #[.slice (some ⟨g5,0,none⟩) 1 k5] 26)) (some ⟨w5.heap.size,0,none⟩) 1 1 [⟨some ⟨g5,0,none⟩,k5,[⟨4,[],linuxK,0⟩]⟩]from
  SlsAt.new w5 [⟨some ⟨g5,0,none⟩,k5,[⟨4,[],linuxK,0⟩]⟩] (fun p hp=> by rw [List.mem_singleton.1 hp];exact HV.out) _ rfl 1 rfl)
 have KA:=Qh (below_alloc' w5 (.cells #[.slice (some ⟨g5,0,none⟩) 1 k5] 26))
 replace HG:=Qh (HG.out.below KA.out)
 replace HH:=Qh (HH.out.below KA.out)
 replace HK:=Qh (HK.out.below KA.out)
 replace HV:=Qh (HV.out.below KA.out)
 replace HB:=Qh (HB.out.trans ((KA.out).mono HB.out.size))
 refine (qjn (L:=R14) (n:=2) rfl (by decide) (by have:=qhp _ _ 1 1 [osK] HK.out (by decide) (by decide) _ 1 1 _ HS.out (by decide) (fun p hp=> by rw [List.mem_singleton.1 hp];exact qb3 (Nat.zero_le _) (by decide)) (Nat.le_of_ble_eq_true rfl) (HE.out _ HB.out).tab;rw [show rowsOf _=[[⟨4,[],linuxK,0⟩]]from rfl,obj14]at this;exact this)).mono ?_
 rintro e w7 ⟨g7,k7,rfl,H7⟩
 clear HV HK
 replace HG:=Qh ((HG.out).below H7.out.2.2)
 replace HH:=Qh ((HH.out).below H7.out.2.2)
 replace HB:=Qh (HB.out.trans (H7.out.2.2.mono HB.out.size))
 have HV:=Qh H7.out.2.1
 clear H7 HS KA hbl
 have HC:=Qh (show ConfIn w7 c14 _ (some ⟨q1,0,none⟩) 1 1 (some ⟨q1+1,0,none⟩) 2 2 (some ⟨g7,0,none⟩) 2 k7 from ⟨HG.out,HH.out,rfl,HV.out⟩)
 clear HG HH HV
 generalize hQQ:[(⟨[120],false,⟨some ⟨g1,0,none⟩,k1,none0⟩⟩:Pe),⟨[],true,⟨some ⟨g1,0,none⟩,k1,none0⟩⟩]=QQ at HC
 clear hQQ
 go_upto_region 3 with (first
  | ((with_reducible refine qao ?_ 28 #[(0, .tmp 15),(1, .tmp 20),(2, .tmp 24)] ?_ #[.slice (some ⟨q1,0,none⟩) 1 1, .slice (some ⟨q1+1,0,none⟩) 2 2, .slice (some ⟨g7,0,none⟩) 2 k7] ?_ ?_);rfl;rfl;go_must (refine Eq.trans ?_ (qep (some ⟨q1,0,none⟩) 1 1 (some ⟨q1+1,0,none⟩) 2 2 (some ⟨g7,0,none⟩) 2 k7);kernel_rfl))
  | ((with_reducible refine qaf ?_ 28 (.tmp 2) (.tmp 25) ?_ w7.heap.size [.slice (some ⟨q1,0,none⟩) 1 1, .slice (some ⟨q1+1,0,none⟩) 2 2, .slice (some ⟨g7,0,none⟩) 2 k7] ?_ ?_ cz ?_ ?_ ?_ ?_ ?_);rfl;rfl;go_must (rfl;rfl;rfl;exact Row.at_ _ _ _ rfl rfl;exact qah;exact qau _ _ _ _ _ _ _ _ _;intro w8 Rw8 Kw8 Ew8)))
 have hw2b:w.heap.size≤w7.heap.size:=HB.out.size
 have K8:=Qh (show Below w7.heap.size w7 w8 from (qaq Kw8.out).below (Nat.le_refl _) (fun _ _ h=> h))
 replace HC:=Qh (HC.out.below K8.out)
 replace HB:=Qh (HB.out.trans ((K8.out).mono HB.out.size))
 have R2:=Rw8
 clear K8 Kw8 Ew8 Rw8
 generalize w7.heap.size=b2 at*
 obtain ⟨t,hpt⟩:=prints14
 have HP:=Qh hpt
 obtain ⟨htk,ht4⟩:=small14 hpt.row
 have HTK:=Qh htk
 have htl:=hpt.len
 clear hpt htk
 have hO14:∀h∈c14.hist,h.who.length≤250000∧h.rest.length≤5000:=fun h hm=> by
  rcases List.mem_cons.1 hm with rfl | hm
  ·exact ⟨by decide,by decide⟩
  ·rw [List.mem_singleton.1 hm]
   exact ⟨by decide,by decide⟩
 have hsum14:(c14.hist.map rowH).flatten.length≤4000:=by
  show [rowH e14,rowH (bare true)].flatten.length≤4000
  rw [qgh,qgf];decide
 have HO14:=Qh (And.intro hO14 hsum14)
 clear hO14 hsum14
 have HPR:=Qh (qxq w8 c14 QQ (some ⟨q1,0,none⟩) 1 1 (some ⟨q1+1,0,none⟩) 2 2 (some ⟨g7,0,none⟩) 2 k7 HC.out fit14 (by decide) (by decide) HO14.out.1 HO14.out.2 (HE.out _ HB.out).tab (HE.out _ HB.out).js HP.out.row)
 go_wp2_with ((with_reducible refine qas ?_ 28 (.tmp 2) ?_ b2 0 [.slice (some ⟨q1,0,none⟩) 1 1, .slice (some ⟨q1+1,0,none⟩) 2 2, .slice (some ⟨g7,0,none⟩) 2 k7] #[.slice (some ⟨q1,0,none⟩) 1 1, .slice (some ⟨q1+1,0,none⟩) 2 2, .slice (some ⟨g7,0,none⟩) 2 k7] ?_ _ ?_ Tryz.underlying28 ?_ ?_ ?_ ?_);rfl;rfl;go_must (rfl;exact qan R2.out;rfl;exact qah;rfl))
 refine HPR.out.mono ?_
 rintro e w9 ⟨A9,c9,rfl,H9⟩
 replace HC:=Qh (HC.out.below H9.out.2)
 replace R2:=Qh (R2.out.below H9.out.2 R2.out.lt)
 replace HB:=Qh (HB.out.trans ((H9.out.2).mono HB.out.size))
 have HBY:=Qh H9.out.1
 clear H9 HPR
 have HPA:=Qh (qm0 w9 A9 t.length c9 t HBY.out htl HP.out.short (HE.out _ HB.out))
 rw [HP.out.back]at HPA
 go_wp2_with fail
 refine HPA.out.mono ?_
 rintro e w10 ⟨QX,X1,d1,X2,d2,X3,d3,rfl,H10⟩
 have hqx:QX.length=2:=by
  have:=congrArg List.length H10.out.1.same
  unfold histsOf at this;rwa [List.length_map]at this
 replace HC:=Qh (HC.out.below H10.out.2)
 replace R2:=Qh (R2.out.below H10.out.2 R2.out.lt)
 replace HBY:=Qh (HBY.out.below H10.out.2)
 replace HB:=Qh (HB.out.trans ((H10.out.2).mono HB.out.size))
 have HXC:=Qh H10.out.1
 rw [hqx]at HXC ⊢
 change Hid (ConfIn w10 c14 QX X1 1 d1 X2 2 d2 X3 2 d3)at HXC
 clear H10 HPA
 obtain ⟨bx,ox,rfl, -, -⟩:=HXC.out.hist.at_ (by decide)
 have hb25:w10.heap.size≠b2:=by have:=R2.out.lt;omega
 go_upto_region 5 with ((with_reducible refine qaf ?_ 28 (.tmp 5) (.tmp 34) ?_ w10.heap.size [.slice X1 1 d1, .slice (some ⟨bx,ox,none⟩) 2 d2, .slice X3 2 d3] ?_ ?_ cz ?_ ?_ ?_ ?_ ?_);rfl;rfl;go_must (rfl;rfl;rfl;exact Row.at_ _ _ _ rfl rfl;exact qah;exact qau _ _ _ _ _ _ _ _ _;intro w11 Rw11 Kw11 Ew11))
 have K11:=Qh (show Below w10.heap.size w10 w11 from (qaq Kw11.out).below (Nat.le_refl _) (fun _ _ h=> h))
 replace HC:=Qh (HC.out.below K11.out)
 replace R2:=Qh (R2.out.below K11.out R2.out.lt)
 replace HBY:=Qh (HBY.out.below K11.out)
 replace HXC:=Qh (HXC.out.below K11.out)
 replace HB:=Qh (HB.out.trans ((K11.out).mono HB.out.size))
 have R5:=Rw11
 clear K11 Kw11 Ew11 Rw11
 generalize w10.heap.size=b5 at*
 have kc:=fun (W:World) (C:Array Value) (n c:Nat)=> Lib.run_convert_bytes_const (P:=Tryz.prog) W 22 5 C n c Tryz.underlying22 Tryz.underlying5
 have HCN:=Qh (BytesAt.const w11 [123,125] 5 (2,3) (C:=([123,125].map v8).toArray) rfl (n:=2) rfl)
 have KA:=Qh (below_alloc' w11 (.cells ([123,125].map v8).toArray 5 (2,3)))
 replace HC:=Qh (HC.out.below KA.out)
 replace R2:=Qh (R2.out.below KA.out R2.out.lt)
 replace HBY:=Qh (HBY.out.below KA.out)
 replace HXC:=Qh (HXC.out.below KA.out)
 replace R5:=Qh (R5.out.below KA.out R5.out.lt)
 replace HB:=Qh (HB.out.trans ((KA.out).mono HB.out.size))
 generalize hW0:w11.alloc (.cells ([123,125].map v8).toArray 5 (2,3))=w12a at*
 have HPE:=Qh (qg9 _ _ 2 2 [123,125] HCN.out (by decide) (HE.out _ HB.out))
 rw [qs0]at HPE
 go_wp2_with fail
 generalize hW:World.alloc _ _=W'
 obtain rfl:w12a=W':=hW0.symm.trans hW
 clear hW hW0 kc KA HCN
 refine HPE.out.mono ?_
 rintro e w12 ⟨rfl, -,H12⟩
 replace HC:=Qh (HC.out.below H12.out)
 replace R2:=Qh (R2.out.below H12.out R2.out.lt)
 replace HBY:=Qh (HBY.out.below H12.out)
 replace HXC:=Qh (HXC.out.below H12.out)
 replace R5:=Qh (R5.out.below H12.out R5.out.lt)
 replace HB:=Qh (HB.out.trans ((H12.out).mono HB.out.size))
 clear H12 HPE
 go_upto_region 6 with ((with_reducible refine qaf ?_ 28 (.tmp 7) (.tmp 40) ?_ w12.heap.size cz ?_ ?_ cz ?_ ?_ ?_ ?_ ?_);rfl;rfl;go_must (rfl;rfl;rfl;exact Row.at_ _ _ _ rfl rfl;exact qah;exact qau _ _ _ _ _ _ _ _ _;intro w12b Rw12b Kw12b Ew12b))
 have K13:=Qh (show Below w12.heap.size w12 w12b from (qaq Kw12b.out).below (Nat.le_refl _) (fun _ _ h=> h))
 replace HC:=Qh (HC.out.below K13.out)
 replace R2:=Qh (R2.out.below K13.out R2.out.lt)
 replace HBY:=Qh (HBY.out.below K13.out)
 replace HXC:=Qh (HXC.out.below K13.out)
 replace R5:=Qh (R5.out.below K13.out R5.out.lt)
 replace HB:=Qh (HB.out.trans ((K13.out).mono HB.out.size))
 clear K13 Kw12b Ew12b Rw12b
 generalize w12.heap.size=bb7 at*
 have kc:=fun (W:World) (C:Array Value) (n c:Nat)=> Lib.run_convert_bytes_const (P:=Tryz.prog) W 22 5 C n c Tryz.underlying22 Tryz.underlying5
 have HCN:=Qh (BytesAt.const w12b y1 5 (42,43) (C:=(y1.map v8).toArray) rfl (n:=42) rfl)
 have KA:=Qh (below_alloc' w12b (.cells (y1.map v8).toArray 5 (42,43)))
 replace HC:=Qh (HC.out.below KA.out)
 replace R2:=Qh (R2.out.below KA.out R2.out.lt)
 replace HBY:=Qh (HBY.out.below KA.out)
 replace HXC:=Qh (HXC.out.below KA.out)
 replace R5:=Qh (R5.out.below KA.out R5.out.lt)
 replace HB:=Qh (HB.out.trans ((KA.out).mono HB.out.size))
 generalize hW0:w12b.alloc (.cells (y1.map v8).toArray 5 (42,43))=w13a at*
 have HPE:=Qh (qg9 _ _ 42 42 y1 HCN.out (by decide) (HE.out _ HB.out))
 obtain ⟨rr,hrr⟩:=q1c
 rw [hrr]at HPE
 clear hrr
 go_wp2_with fail
 generalize hW:World.alloc _ _=W'
 obtain rfl:w13a=W':=hW0.symm.trans hW
 clear hW hW0 kc KA HCN
 refine HPE.out.mono ?_
 rintro e w13 ⟨QY,Y1,f1,Y2,f2,Y3,f3,rfl,H12⟩
 have hqy:QY.length=0:=by
  have:=congrArg List.length H12.out.1.same
  unfold histsOf at this;rwa [List.length_map]at this
 rw [hqy]
 replace HC:=Qh (HC.out.below H12.out.2)
 replace R2:=Qh (R2.out.below H12.out.2 R2.out.lt)
 replace HBY:=Qh (HBY.out.below H12.out.2)
 replace HXC:=Qh (HXC.out.below H12.out.2)
 replace R5:=Qh (R5.out.below H12.out.2 R5.out.lt)
 replace HB:=Qh (HB.out.trans ((H12.out.2).mono HB.out.size))
 clear H12 HPE
 have hb29:w13.heap.size≠b2:=by have:=R2.out.lt;omega
 go_upto_region 7 with ((with_reducible refine qaf ?_ 28 (.tmp 9) (.tmp 46) ?_ w13.heap.size [.slice Y1 0 f1, .slice Y2 0 f2, .slice Y3 rr.length f3] ?_ ?_ cz ?_ ?_ ?_ ?_ ?_);rfl;rfl;go_must (rfl;rfl;rfl;exact Row.at_ _ _ _ rfl rfl;exact qah;exact qau _ _ _ _ _ _ _ _ _;intro w13b Rw13b Kw13b Ew13b))
 have K13:=Qh (show Below w13.heap.size w13 w13b from (qaq Kw13b.out).below (Nat.le_refl _) (fun _ _ h=> h))
 replace HC:=Qh (HC.out.below K13.out)
 replace R2:=Qh (R2.out.below K13.out R2.out.lt)
 replace HBY:=Qh (HBY.out.below K13.out)
 replace HXC:=Qh (HXC.out.below K13.out)
 replace R5:=Qh (R5.out.below K13.out R5.out.lt)
 replace HB:=Qh (HB.out.trans ((K13.out).mono HB.out.size))
 have R9:=Rw13b
 clear K13 Kw13b Ew13b Rw13b
 generalize w13.heap.size=bb9 at*
 have kc:=fun (W:World) (C:Array Value) (n c:Nat)=> Lib.run_convert_bytes_const (P:=Tryz.prog) W 22 5 C n c Tryz.underlying22 Tryz.underlying5
 have HCN:=Qh (BytesAt.const w13b y2 5 (57,58) (C:=(y2.map v8).toArray) rfl (n:=57) rfl)
 have KA:=Qh (below_alloc' w13b (.cells (y2.map v8).toArray 5 (57,58)))
 replace HC:=Qh (HC.out.below KA.out)
 replace R2:=Qh (R2.out.below KA.out R2.out.lt)
 replace HBY:=Qh (HBY.out.below KA.out)
 replace HXC:=Qh (HXC.out.below KA.out)
 replace R5:=Qh (R5.out.below KA.out R5.out.lt)
 replace R9:=Qh (R9.out.below KA.out R9.out.lt)
 replace HB:=Qh (HB.out.trans ((KA.out).mono HB.out.size))
 generalize hW0:w13b.alloc (.cells (y2.map v8).toArray 5 (57,58))=w14a at*
 have HPE:=Qh (qg9 _ _ 57 57 y2 HCN.out (by decide) (HE.out _ HB.out))
 rw [q2s]at HPE
 go_wp2_with fail
 generalize hW:World.alloc _ _=W'
 obtain rfl:w14a=W':=hW0.symm.trans hW
 clear hW hW0 kc KA HCN
 refine HPE.out.mono ?_
 rintro e w14 ⟨rfl, -,H12⟩
 replace HC:=Qh (HC.out.below H12.out)
 replace R2:=Qh (R2.out.below H12.out R2.out.lt)
 replace HBY:=Qh (HBY.out.below H12.out)
 replace HXC:=Qh (HXC.out.below H12.out)
 replace R5:=Qh (R5.out.below H12.out R5.out.lt)
 replace R9:=Qh (R9.out.below H12.out R9.out.lt)
 replace HB:=Qh (HB.out.trans ((H12.out).mono HB.out.size))
 clear H12 HPE
 go_upto_region 8 with ((with_reducible refine qaf ?_ 28 (.tmp 11) (.tmp 52) ?_ w14.heap.size cz ?_ ?_ cz ?_ ?_ ?_ ?_ ?_);rfl;rfl;go_must (rfl;rfl;rfl;exact Row.at_ _ _ _ rfl rfl;exact qah;exact qau _ _ _ _ _ _ _ _ _;intro w14b Rw14b Kw14b Ew14b))
 have K13:=Qh (show Below w14.heap.size w14 w14b from (qaq Kw14b.out).below (Nat.le_refl _) (fun _ _ h=> h))
 replace HC:=Qh (HC.out.below K13.out)
 replace R2:=Qh (R2.out.below K13.out R2.out.lt)
 replace HBY:=Qh (HBY.out.below K13.out)
 replace HXC:=Qh (HXC.out.below K13.out)
 replace R5:=Qh (R5.out.below K13.out R5.out.lt)
 replace R9:=Qh (R9.out.below K13.out R9.out.lt)
 replace HB:=Qh (HB.out.trans ((K13.out).mono HB.out.size))
 clear K13 Kw14b Ew14b Rw14b
 generalize w14.heap.size=bb11 at*
 have nb:∀b o v,w14b.cell? ⟨b,o,none⟩=some v→(∀A n c,v≠ .slice A n c)→b≠b2:=fun b o v h hv e=> qvp R2.out h hv e
 have n9:∀b o,A9=some ⟨b,o,none⟩→b≠b2:=fun b o e=> by
  obtain ⟨b',o',e2,_,hr⟩:=HBY.out.at_ (by omega)
  rw [e2]at e
  cases e
  exact nb b _ _ (hr 0 (v8 (t[0]'(by omega))) (by rw [List.getElem?_map,List.getElem?_eq_getElem (by omega)];rfl)) (fun _ _ _ e=> by cases e)
 have hql:=HC.out.hist.len
 have n2:q1+1≠b2:=nb _ _ _ (HC.out.hist.cells (i:=0) (by omega)).1 (fun _ _ _ e=> by cases e)
 have nq:∀q∈QQ,∀b o,q.rest.at_=some ⟨b,o,none⟩→b≠b2:=fun q hq b o e=> by
  have hm:q.hist∈c14.hist:=by
   rw [←HC.out.same];exact List.mem_map.2 ⟨q,hq,rfl⟩
  have h1:q.rest.row.length=1:=by
   rcases List.mem_cons.1 hm with e2 | hm
   ·exact congrArg (fun h=> h.rest.length) e2
   ·exact congrArg (fun h=> h.rest.length) (List.mem_singleton.1 hm)
  have hv:=HC.out.hist.ins q hq
  rw [e]at hv
  exact nb b _ _ (hv.cells (i:=0) (by omega)).1 (fun _ _ _ e=> by cases e)
 have n3:g7≠b2:=nb _ _ _ (HC.out.rest.cells (i:=0) (by decide)).1 (fun _ _ _ e=> by cases e)
 have hxl:=HXC.out.hist.len
 have nx:bx≠b2:=nb _ _ _ (HXC.out.hist.cells (i:=0) (by omega)).1 (fun _ _ _ e=> by cases e)
 have xe0:=(HXC.out.hist.cells (i:=1) (by omega)).2.1
 have hqe:=second14 HXC.out.same (by omega)
 rw [hqe]at xe0
 have x50:w14b.cell? ⟨b5,0,none⟩=some (.slice X1 1 d1):=R5.out.cell (i:=0) rfl
 have x51:w14b.cell? ⟨b5,1,none⟩=some (.slice (some ⟨bx,ox,none⟩) 2 d2):=R5.out.cell (i:=1) rfl
 have x91:w14b.cell? ⟨bb9,1,none⟩=some (.slice Y2 0 f2):=R9.out.cell (i:=1) rfl
 have r0:w14b.cell? ⟨b2,0,none⟩=some (.slice (some ⟨q1,0,none⟩) 1 1):=R2.out.cell (i:=0) rfl
 have f0:w14b.frozen? ⟨b2,0,none⟩=false:=R2.out.frozen 0
 have KS:=Qh (show Kept w14b (w14b.setCell ⟨b2,0,none⟩ (.slice none 0 0)) (·=b2)from (Kept.refl w14b (·=b2)).setCell (a:=⟨b2,0,none⟩) (.inr rfl) _)
 have R2S:=Qh (show Row (w14b.setCell ⟨b2,0,none⟩ (.slice none 0 0)) b2 28 [.slice none 0 0, .slice (some ⟨q1+1,0,none⟩) 2 2, .slice (some ⟨g7,0,none⟩) 2 k7]from R2.out.set 0 _)
 go_upto_region 9 with fail
 replace x50:=KS.out.cell x50 hb25
 replace x51:=KS.out.cell x51 hb25
 replace x91:=KS.out.cell x91 hb29
 have xe:=KS.out.cell xe0 nx
 have HBS:=Qh (HBY.out.kept KS.out (fun b o e _=> n9 b o e))
 have HHS:=Qh (HC.out.hist.kept KS.out (fun b o e _=> by cases e;exact n2) (fun q hq b o e _=> nq q hq b o e))
 have HRS:=Qh (HC.out.rest.kept KS.out (fun b o e _=> by cases e;exact n3))
 have HSM:=Qh HC.out.same
 have HBW:=Qh (show Below w.heap.size w (w14b.setCell ⟨b2,0,none⟩ (.slice none 0 0))from HB.out.trans (KS.out.below HB.out.size (fun i hi e=> by rw [e]at hi;omega)))
 clear nb n9 n2 nq n3 nx r0 f0 KS hb25 hb29 xe0 HB HBY HC HXC R2 R5 R9 hql hxl hqe hqx hqy
 generalize w14b.setCell ⟨b2,0,none⟩ (.slice none 0 0)=w15 at*
 have HCO:=Qh (show ConfIn w15 ⟨[],c14.hist,R14⟩ QQ none 0 0 (some ⟨q1+1,0,none⟩) 2 2 (some ⟨g7,0,none⟩) 2 k7 from ⟨GsAt.nil _ _ _,HHS.out,HSM.out,HRS.out⟩)
 have HRI:=Qh (qyj w15 ⟨[],c14.hist,R14⟩ QQ none 0 0 (some ⟨q1+1,0,none⟩) 2 2 (some ⟨g7,0,none⟩) 2 k7 HCO.out ⟨fit14.rest,fit14.few,fit14.hist⟩ (by decide) (by decide) HO14.out.1 HO14.out.2 (HE.out _ HBW.out).tab)
 rw [qvr off14]at HRI
 have HLA:=Qh (fun W (q:Below w15.heap.size w15 W)=> qmm W (some ⟨q1+1,0,none⟩) 2 2 QQ (HHS.out.below q) (by decide))
 rw [HSM.out,layers14]at HLA
 have hcap:(t.length:Int)≤(c9:Int):=by have:=HBS.out.cap;omega
 have h37:(37:Int)≤(t.length:Int):=by omega
 have h37c:(37:Int)≤(c9:Int):=by omega
 have hl40:¬((t.length:Int) < 40):=by omega
 have hcv:(convert 22 9 (.slice A9 37 c9)).run Tryz.prog w15= .ok (.string ⟨(123::34::104::105::115::116::111::114::121::34::58::91::123::34::99::114::101::97::116::101::100::95::98::121::34::58::34::120::34::125::44::123::34::101::109::112::116::[]).toArray⟩) w15:=by
  have:=qel w15 A9 37 c9 (t.take 37) (HBS.out.frontC (by omega))
  rw [HTK.out]at this
  exact this
 go_wp2_with ((with_reducible refine qas ?_ 28 (.tmp 2) ?_ b2 0 [.slice none 0 0, .slice (some ⟨q1+1,0,none⟩) 2 2, .slice (some ⟨g7,0,none⟩) 2 k7] #[.slice none 0 0, .slice (some ⟨q1+1,0,none⟩) 2 2, .slice (some ⟨g7,0,none⟩) 2 k7] ?_ _ ?_ Tryz.underlying28 ?_ ?_ ?_ ?_);rfl;rfl;go_must (rfl;exact qan R2S.out;rfl;exact qah;rfl))
 refine HRI.out.mono ?_
 rintro e w16 ⟨rfl,H16⟩
 have y1_:w16.cell? ⟨b2,1,none⟩=some (.slice (some ⟨q1+1,0,none⟩) 2 2):=(R2S.out.below H16.out R2S.out.lt).cell (i:=1) rfl
 go_wp2_with fail
 refine (HLA.out w16 H16.out).mono ?_
 rintro e w17 ⟨rfl,H17⟩
 have HBF:=Qh (HBW.out.trans ((H16.out.trans (H17.out.mono H16.out.size)).mono HBW.out.size))
 go_wp2_with fail
 go_ret
 exact ⟨rfl,HBF⟩
end Go.Proofs.YtgmangikcfakgaaGreatDoor
