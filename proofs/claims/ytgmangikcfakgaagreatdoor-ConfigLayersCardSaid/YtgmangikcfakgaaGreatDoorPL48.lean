import Derived.Test.YtgmangikcfakgaaGreatDoorPL47
import Derived.Test.YtgmangikcfakgaaGreatDoorPL34
namespace Go.Proofs.YtgmangikcfakgaaGreatDoor
open Go.RowKit Sh Jt Js Jo
set_option maxRecDepth 100000
theorem cf_op_run {o:Oper} {a:Act} {w:World} {K:Act→World→Prop} {Q:Exit→Act→World→Prop} {E:Prop} (hg:o.guard=none) {ops:Array Oper} (v:Value) (w':World) (hrun:(execOp a.eval o).run Tryz.prog w= .ok (.value v) w') (h:K (a.put o.dst v) w'):if Region.wanted o (yielded ops a.tmps)=true then Oper.wp Tryz.prog o a w K Q else E:=by
 rw [if_pos (by simp [Region.wanted,hg])]
 unfold Oper.wp
 rw [hrun]
 exact h
theorem cf_op_skip {o:Oper} {a:Act} {w:World} {K:Act→World→Prop} {Q:Exit→Act→World→Prop} {E:Prop} (hg:o.guard=none) {ops:Array Oper} (w':World) (hrun:(execOp a.eval o).run Tryz.prog w= .ok .skip w') (h:K (a.put o.dst undef) w'):if Region.wanted o (yielded ops a.tmps)=true then Oper.wp Tryz.prog o a w K Q else E:=by
 rw [if_pos (by simp [Region.wanted,hg])]
 unfold Oper.wp
 rw [hrun]
 exact h
theorem cf_run_v {s:Sem Value} {w w':World} {v:Value} (h:s.run Tryz.prog w= .ok v w'):(do let x ←s;pure (Next.value x):Sem Next).run Tryz.prog w= .ok (.value v) w':=by
 rw [Sem.run_bind,h]
 rfl
theorem zero_dig14:∃i z,Tryz.prog.info? 52=some i∧i.zero=some z∧i.size=32∧i.bytes=32∧z.cells=((List.replicate 32 (0:UInt8)).map v8).toArray:=by
 have h:(Tryz.prog.info? 52).map (fun i=> (i.zero.map (fun z=> z.cells),i.size,i.bytes))=some (some ((List.replicate 32 (0:UInt8)).map v8).toArray,32,32):=by kernel_rfl
 obtain ⟨i,hi,hz⟩:=Option.map_eq_some_iff.1 h
 simp only [Prod.mk.injEq]at hz
 obtain ⟨z,h1,h2⟩:=Option.map_eq_some_iff.1 hz.1
 exact ⟨i,z,hi,h1,hz.2.1,hz.2.2,h2⟩
namespace Jo
def zeros14 (n:Nat):List (List UInt8):=List.replicate n (List.replicate 32 0)
theorem zeros_dig (n:Nat):Dig32G (zeros14 n):=fun g hg=> by
 rw [List.eq_of_mem_replicate hg]
 rfl
theorem zeros_len (n:Nat):(zeros14 n).length=n:=List.length_replicate
end Jo
theorem made_digs14 (n:Nat):madeCells ((List.replicate 32 (0:UInt8)).map v8).toArray (n*32)=(cellsG (zeros14 n)).toArray:=by
 apply Array.ext
 ·rw [size_madeCells,List.size_toArray,cellsG_len (zeros_dig n),zeros_len]
 ·intro i h1 h2
  rw [size_madeCells]at h1
  have h:=cellsG_at (zeros_dig n) (i / 32) (i % 32) (by rw [zeros_len];omega) (by omega)
  have h0:(zeros14 n)[i / 32]'(by rw [zeros_len];omega)=List.replicate 32 0:=List.getElem_replicate _
  rw [show i / 32*32+i % 32=i by omega,h0]at h
  have e:(cellsG (zeros14 n))[i]? =some (cellsG (zeros14 n)).toArray[i]:=by
   rw [List.getElem_toArray,List.getElem?_eq_getElem]
  rw [e]at h
  have hs:((List.replicate 32 (0:UInt8)).map v8).toArray.size=32:=rfl
  generalize (List.replicate 32 (0:UInt8)).map v8=Z at*
  simp [madeCells,hs,←h]
theorem make_digs14 (n:Nat) (hn:n≤1000) (W:World):(Instr.makeSlice 24 (.int .i64 (n:Int)) (.int .i64 (n:Int))).run Tryz.prog W= .ok (.slice (some ⟨W.heap.size,0,none⟩) n n) (W.alloc (.cells (cellsG (zeros14 n)).toArray 52)):=by
 obtain ⟨i,z,hi,hz,hsz,hby,hc⟩:=zero_dig14
 have h:=run_make (P:=Tryz.prog) W 24 52 i z Tryz.underlying24 hi hz .i64 .i64 n n (by omega) (by omega) (by rw [hby];omega) (by omega)
 rw [hsz,hc]at h
 simp only [Int.toNat_natCast]at h
 rw [made_digs14]at h
 exact h
theorem run_build_hist14 (W:World) (x0 x1 x2:Value):(Instr.buildSlice 25 1 #[(0, .agg #[x0,x1,x2])]).run Tryz.prog W= .ok (.slice (some ⟨W.heap.size,0,none⟩) 1 1) (W.alloc (.cells #[x0,x1,x2] 42)):=by
 obtain ⟨i,z,hi,hz,hsz,_,hzc⟩:=cf_infoH
 refine run_buildSlice (P:=Tryz.prog) W 25 42 1 #[(0, .agg #[x0,x1,x2])] #[x0,x1,x2] i z Tryz.underlying25 hi hz (by rw [hsz];decide) (by rw [hsz];decide) ?_
 rw [hsz]
 show Instr.fill _ _ ((([[x0,x1,x2]].map fun (e:List Value)=> Value.agg e.toArray).zipIdx 0).map fun x=> (x.2,x.1))=_
 rw [Great.fill_whole (s:=3) (by decide) _ _ (fun v hv=> by
  obtain ⟨e,he,rfl⟩:=List.mem_map.1 hv
  rw [List.mem_singleton.1 he]
  rfl) (by simp),List.flatMap_map]
 rfl
theorem built_lay14 (A:Option Addr) (n c:Nat) (E:Option Addr) (m d:Nat):Tryz.prog.built 28 [(0, .slice A n c),(2, .slice E m d)]=some #[.slice A n c, .slice none 0 0, .slice E m d]:=by kernel_rfl
theorem built_em14 (b:Bool) (A:Option Addr) (n c:Nat):Tryz.prog.built 42 [(1, .bool b),(2, .slice A n c)]=some #[.string ⟨#[]⟩, .bool b, .slice A n c]:=by kernel_rfl
theorem OwnHists.keptC {w w':World} {S:Nat→Prop} {B:Nat} {v:Value} {Q:List Pe} (h:OwnHists w B v Q) (k:Kept w w' S) (hS:∀b,v.ownBlock=some b→¬S b) (hI:∀p∈Q,∀b o,p.rest.at_=some ⟨b,o,none⟩→¬S b):OwnHists w' B v Q:=by
 refine ⟨?_,fun p hp=> (h.ins p hp).kept k (fun b o e _=> hI p hp b o e),fun p hp b o e=> ⟨Nat.lt_of_lt_of_le (h.far p hp b o e).1 k.size,(h.far p hp b o e).2⟩,h.base⟩
 obtain ⟨hl,h1 | ⟨g,cap,cur,rfl,hg,hh,hn,hc,hs,ht⟩⟩:=h.row
 ·exact ⟨hl, .inl h1⟩
 ·exact ⟨hl, .inr ⟨g,cap,cur,rfl,hg,(k.block g (Array.getElem?_eq_some_iff.1 hh).1 (hS g rfl)).trans hh,hn,hc,hs,ht⟩⟩
theorem step_append_hists {w:World} {ops:Array Oper} {o:Oper} {a:Act} {K:Act→World→Prop} {Q:Exit→Act→World→Prop} {E:Prop} (hg:o.guard=none) (s x:Operand)
  (ho:o.op= .call {callee:= .builtin .append,args:=#[s,x],argTypes:=#[25,25]}) (B:Nat) (v:Value) (P:List Pe) (hs:a.eval s=v) (hown:OwnHists w B v P)
  (q:Nat) (p:Pe) (hx:a.eval x= .slice (some ⟨q,0,none⟩) 1 1) (hcell:w.rangeAt q 0 p.enc) (hp:ValsAt w p.rest.at_ p.rest.row.length p.rest.cap p.rest.row) (hfar:∀b o,p.rest.at_=some ⟨b,o,none⟩→B≤b∧b < w.heap.size∧v.ownBlock≠some b) (hb:P.length≤1000000000) (hB:B≤w.heap.size)
  (h:∀v' w',Hid (OwnHists w' B v' (P++[p]))→Hid (Kept w w' (fun k=> B≤k∧v.ownBlock=some k))→Hid (∀k,v'.ownBlock=some k→v.ownBlock=some k∨w.heap.size≤k)→K (a.put o.dst v') w'):if Region.wanted o (yielded ops a.tmps)=true then Oper.wp Tryz.prog o a w K Q else E:=by
 rw [if_pos (by simp [Region.wanted,hg])]
 obtain ⟨i,z,hi,hz,hsz,hby,hzc⟩:=cf_infoH
 have hnews:∀j u,p.enc[j]? =some u→w.cell? ((⟨q,0,none⟩:Addr).add j)=some u:=by
  intro j u hj
  rw [Addr.add_mid]
  exact hcell j u hj
 obtain ⟨v',w',hr,h2,h3,h4,h5⟩:=run_append_own_at (P:=Tryz.prog) w B 25 o.type 42 i z 3 48 Tryz.underlying25 hi hz hsz hby hzc (by decide) v P.length (cellsE P) hown.row ⟨q,0,none⟩ 1 1 p.enc
  rfl hnews (fun v hv=> cellsE_one [p] v (by show v∈p.enc++[];rw [List.append_nil];exact hv)) (by unfold maxLen;omega) (by omega) hB
 unfold Oper.wp execOp
 simp only [ho,resolve,invoke,builtin,Sem.run_bind,Sem.run_pure,Result.andThen_ok,List.map_toArray,List.map_cons,List.map_nil,hs,hx,hr]
 have hk:Kept w w' (fun k=> B≤k∧v.ownBlock=some k):=by
  refine ⟨h3.os,h3.tape,h3.output,h3.size,fun k hk hn=> h3.block k hk (fun e=> hn ?_)⟩
  obtain ⟨_,⟨rfl,_⟩ | ⟨g,cap,cur,rfl,hg,_⟩⟩:=hown.row
  ·cases e
  ·have e':g=k:=by simpa [Value.ownBlock] using e.symm
   subst e'
   exact ⟨hg,rfl⟩
 have each:∀r∈P++[p],ValsAt w r.rest.at_ r.rest.row.length r.rest.cap r.rest.row∧∀b o,r.rest.at_=some ⟨b,o,none⟩→B≤b∧b < w.heap.size∧v.ownBlock≠some b:=fun r hr=> by
  rcases List.mem_append.1 hr with hr | hr
  ·exact ⟨hown.ins r hr,fun b o e=> ⟨hown.base r hr b o e,hown.far r hr b o e⟩⟩
  ·rw [List.mem_singleton.1 hr]
   exact ⟨hp,hfar⟩
 refine h v' w' (Lib.hid ⟨?_,fun r hr=> ?_,fun r hr b o e=> ?_,fun r hr b o e=> ((each r hr).2 b o e).1⟩) hk (Lib.hid fun k hk=> ?_)
 ·rw [List.length_append,cellsE_app,show cellsE [p]=p.enc from List.append_nil _]
  exact h2
 ·exact (each r hr).1.kept hk (fun b o e _ hb=> ((each r hr).2 b o e).2.2 hb.2)
 ·obtain ⟨-,f1,f2⟩:=(each r hr).2 b o e
  refine ⟨Nat.lt_of_lt_of_le f1 h3.size,fun e2=> ?_⟩
  rcases h5 with h5 | h5
  ·rw [h5]at e2
   exact f2 e2
  ·rw [h5]at e2
   have:=Option.some.inj e2
   omega
 ·rcases h5 with h5 | h5
  ·exact .inl (h5▸hk)
  ·rw [h5]at hk
   exact .inr (Nat.le_of_eq (Option.some.inj hk))
structure LyAt (w wx:World) (b7 ad n g1 k1:Nat) (AH:Option Addr) (cH:Nat) (Q:List Pe):Prop where
 box:Row wx b7 28 [.slice (some ⟨ad,0,none⟩) n n, .slice AH Q.length cH, .slice (some ⟨g1,0,none⟩) 1 k1]
 own:OwnHists wx w.heap.size (.slice AH Q.length cH) Q
 far:∀k,(Value.slice AH Q.length cH).ownBlock=some k→b7 < k
 ins:∀p∈Q,p.rest.at_=some ⟨g1,0,none⟩
 gs:GsAt wx (some ⟨ad,0,none⟩) n n (zeros14 n)
 none_:ValsAt wx (some ⟨g1,0,none⟩) 1 k1 none0
 below:Below w.heap.size w wx
 lt:g1 < b7∧ad < b7∧w.heap.size≤g1∧w.heap.size≤b7
theorem LyAt.next {w wx w':World} {b7 ad n g1 k1:Nat} {AH:Option Addr} {cH:Nat} {Q:List Pe} (h:LyAt w wx b7 ad n g1 k1 AH cH Q) (k:Below wx.heap.size wx w'):LyAt w w' b7 ad n g1 k1 AH cH Q:=
 ⟨h.box.below k h.box.lt,h.own.below k,h.far,h.ins,h.gs.below k,h.none_.below k,h.below.trans (k.mono h.below.size),h.lt⟩
theorem LyAt.conf {w wx:World} {b7 ad n g1 k1:Nat} {AH:Option Addr} {cH:Nat} {Q:List Pe} {L:List Bool} (h:LyAt w wx b7 ad n g1 k1 AH cH Q) (hq:histsOf Q=L.map bare):ConfIn wx (cN n L) Q (some ⟨ad,0,none⟩) n n AH Q.length cH (some ⟨g1,0,none⟩) 1 k1:=by
 obtain ⟨A,c,e,hh,_⟩:=h.own.hists
 simp only [Value.slice.injEq,true_and]at e
 obtain ⟨rfl,rfl⟩:=e
 exact ⟨h.gs,hh,hq,h.none_⟩
theorem LyAt.grow {w wx wa w2:World} {b7 ad n g1 k1:Nat} {AH:Option Addr} {cH:Nat} {Q:List Pe} {p:Pe} (h:LyAt w wx b7 ad n g1 k1 AH cH Q) (ka:Below wx.heap.size wx wa) {v2:Value} (h1:OwnHists w2 w.heap.size v2 (Q++[p])) (h2:Kept wa w2 (fun k=> w.heap.size≤k∧(Value.slice AH Q.length cH).ownBlock=some k))
  (h3:∀k,v2.ownBlock=some k→(Value.slice AH Q.length cH).ownBlock=some k∨wa.heap.size≤k) (hp:p.rest.at_=some ⟨g1,0,none⟩):∃AH2 cH2,v2= .slice AH2 (Q++[p]).length cH2∧w2.cell? ⟨b7,1,none⟩=some (.slice AH Q.length cH)∧w2.frozen? ⟨b7,1,none⟩=false∧Hid (Below w.heap.size w w2)∧Hid (LyAt w (w2.setCell ⟨b7,1,none⟩ v2) b7 ad n g1 k1 AH2 cH2 (Q++[p])):=by
 have ha:=h.next ka
 obtain ⟨AH2,cH2,rfl,hh,_⟩:=h1.hists
 have hb2:Row w2 b7 28 _:=ha.box.of_block (h2.block b7 ha.box.lt (fun e=> by have:=h.far _ e.2;omega))
 have hlt:=h.lt
 have kb:Below w.heap.size w w2:=ha.below.trans ⟨h2.os,h2.tape,h2.output,h2.size,fun i hi=> h2.block i (Nat.lt_of_lt_of_le hi ha.below.size) (fun e=> by omega)⟩
 have k3:Kept w2 (w2.setCell ⟨b7,1,none⟩ (.slice AH2 (Q++[p]).length cH2)) (·=b7):=(Kept.refl w2 (·=b7)).setCell (a:=⟨b7,1,none⟩) (.inr rfl) _
 have hfar:∀k,(Value.slice AH2 (Q++[p]).length cH2).ownBlock=some k→b7 < k:=fun k hk=> by
  rcases h3 k hk with e | e
  ·exact h.far k e
  ·have:=ha.box.lt
   omega
 have hins:∀q∈Q++[p],q.rest.at_=some ⟨g1,0,none⟩:=fun q hq=> by
  rcases List.mem_append.1 hq with hq | hq
  ·exact h.ins q hq
  ·rw [List.mem_singleton.1 hq]
   exact hp
 refine ⟨AH2,cH2,rfl,hb2.cell (i:=1) rfl,hb2.frozen 1,Lib.hid kb,Lib.hid ⟨hb2.set 1 _,h1.keptC k3 (fun b e e2=> by have:=hfar b e;omega) (fun q hq b o e e2=> ?_),hfar,hins, ?_, ?_,kb.trans (k3.below kb.size (fun i hi e=> by omega)),hlt⟩⟩
 ·rw [hins q hq]at e
  cases e
  omega
 ·refine (ha.gs.kept h2 (fun b o e _ e2=> ?_)).kept k3 (fun b o e _ e2=> ?_)
  ·cases e
   have:=h.far _ e2.2
   omega
  ·cases e
   omega
 ·refine (ha.none_.kept h2 (fun b o e _ e2=> ?_)).kept k3 (fun b o e _ e2=> ?_)
  ·cases e
   have:=h.far _ e2.2
   omega
  ·cases e
   omega
namespace Jo
theorem full_snoc:∀(L:List Bool) (b:Bool),fullN (L++[b])=fullN L+if b=true then 0 else 1
 | [],b=> by cases b <;> rfl
 | a::r,b=> by
  have:=full_snoc r b
  cases a <;> cases b <;> simp_all [fullN] <;> omega
theorem cN_walk {n:Nat} {L:List Bool} (hL:L.length≤40):(∀h∈(cN n L).hist,h.who.length≤250000∧h.rest.length≤5000)∧((cN n L).hist.map rowH).flatten.length≤4000:=by
 refine ⟨fun h hm=> ?_, ?_⟩
 ·obtain ⟨b,_,rfl⟩:=List.mem_map.1 (show h∈L.map bare from hm)
  exact ⟨Nat.zero_le _,show 1≤5000 by decide⟩
 ·have:=(bares L).2.2
  show ((L.map bare).map rowH).flatten.length≤4000
  omega
end Jo
set_option maxHeartbeats 40000000 in
theorem configLayers_all (w:World) (n0:Int) (lo: -9223372036854775808≤n0) (hi:n0≤9223372036854775807) (A:Option Addr) (m c:Nat) (L:List Bool) (hB:BoolsAt w A m c L) (hE:CEnv w):
  Calls Tryz.prog 6 #[.int .i64 n0, .slice A m c] w fun e w'=> e= .returned (.bool true)∧Hid (Below w.heap.size w w'):=by
 have HE:=Lib.hid (fun W (q:Below w.heap.size w W)=> hE.below q)
 have HL:=Lib.hid (fun W (q:Below w.heap.size w W)=> hB.below q)
 have hlen:=hB.len
 clear hB hE
 have HN:=Lib.hid (fun W (h:TabOk W)=> own_form (L:=none0) (n:=1) rfl (by decide) (by have:=jo_object W none 0 0 [] ⟨rfl,Nat.le_refl _,fun h=> absurd h (by decide)⟩ (by decide) (fun k hk=> by cases hk) none 0 0 [] ⟨rfl,Nat.le_refl _,fun h=> absurd h (by decide),fun p hp=> by cases hp⟩ (by decide) (fun p hp=> by cases hp) (Nat.zero_le _) h;rw [show objA [] (rowsOf [])=none0 from none_obj]at this;exact this))
 go_enter Tryz.func6,Tryz.ntmps6
 go_wp2_with fail
 refine (cf_small _ (HE.out _ (Below.refl _ _))).mono ?_
 rintro e w1 ⟨rfl,HB⟩
 by_cases hi0:n0 < 0
 ·clear lo hi HN
  go_wp2_with fail
  go_ret
  exact ⟨rfl,HB⟩
 obtain ⟨k,rfl⟩:∃k:Nat,n0=(k:Int):=⟨n0.toNat,by omega⟩
 by_cases hi70:70 < k
 ·have g1:(70:Int) < (k:Int):=by omega
  clear lo hi HN
  go_wp2_with fail
  go_ret
  exact ⟨rfl,HB⟩
 have g0:decide ((k:Int) < 0)=false:=decide_eq_false hi0
 have g7:¬(70:Int) < (k:Int):=by omega
 have g7d:decide ((70:Int) < (k:Int))=false:=decide_eq_false g7
 by_cases hm40:40 < m
 ·have g2:(40:Int) < (m:Int):=by omega
  clear lo hi HN
  go_wp2_with fail
  go_ret
  exact ⟨rfl,HB⟩
 have g4:¬(40:Int) < (m:Int):=by omega
 have g4d:decide ((40:Int) < (m:Int))=false:=decide_eq_false g4
 clear lo hi
 go_wp2_with fail
 refine (HN.out w1 (HE.out _ HB.out).tab).mono ?_
 rintro e w2 ⟨g1,k1,rfl,K2⟩
 have hg1:=K2.out.1.block (show (Value.slice (some ⟨g1,0,none⟩) 1 k1).ownBlock=some g1 from rfl)
 have hw1:=HB.out.size
 replace HB:=Lib.hid (HB.out.trans (K2.out.2.2.mono HB.out.size))
 have HV2:=Lib.hid K2.out.2.1
 clear K2 HN
 have hmk:=make_digs14 k (by omega)
 have HGS:=Lib.hid (show GsAt (w2.alloc (.cells (cellsG (zeros14 k)).toArray 52)) (some ⟨w2.heap.size,0,none⟩) k k (zeros14 k)from ⟨zeros_len k,Nat.le_refl _,zeros_dig k,fun _=> ⟨w2.heap.size,0,rfl,by simp,fun j u hj=> by rw [cell_of_row _ _ _ _ _ _ (heap_alloc_new w2 _),Nat.zero_add];simpa using hj⟩⟩)
 have KA:=Lib.hid (below_alloc' w2 (.cells (cellsG (zeros14 k)).toArray 52))
 have HV3:=Lib.hid (HV2.out.below KA.out)
 have hsz:(w2.alloc (.cells (cellsG (zeros14 k)).toArray 52)).heap.size=w2.heap.size+1:=by simp
 have HB3:=Lib.hid (HB.out.trans (KA.out.mono HB.out.size))
 obtain ⟨CG,hCG⟩:∃CG,CG=cellsG (zeros14 k):=⟨_,rfl⟩
 rw [←hCG]at hmk HGS HV3 hsz HB3
 clear KA HV2 hCG
 go_upto_region 6 with (first
  | ((with_reducible refine build_all ?_ 28 #[(0, .tmp 30),(2, .tmp 31)] ?_ #[.slice (some ⟨w2.heap.size,0,none⟩) k k, .slice none 0 0, .slice (some ⟨g1,0,none⟩) 1 k1] ?_ ?_);rfl;rfl;go_must (refine Eq.trans ?_ (built_lay14 (some ⟨w2.heap.size,0,none⟩) k k (some ⟨g1,0,none⟩) 1 k1);kernel_rfl))
  | ((with_reducible refine store_all ?_ 28 (.tmp 7) (.tmp 32) ?_ (w2.heap.size+1) [.slice (some ⟨w2.heap.size,0,none⟩) k k, .slice none 0 0, .slice (some ⟨g1,0,none⟩) 1 k1] ?_ ?_ cz ?_ ?_ ?_ ?_ ?_);rfl;rfl;go_must ((first | rfl | simp);rfl;rfl;exact Row.at_ _ _ _ rfl (by simp);exact cf_sizeC;exact conf_one _ _ _ _ _ _ _ _ _;intro w4 R4 K4 E4)))
 rw [←hsz]at K4 R4 ⊢
 generalize w2.alloc (.cells CG.toArray 52)=w3 at*
 have KB4:=Lib.hid (show Below w3.heap.size w3 w4 from (kept_stored K4.out).below (Nat.le_refl _) (fun _ _ h=> h))
 have HLY:=Lib.hid (show LyAt w w4 w3.heap.size w2.heap.size k g1 k1 none 0 []from ⟨R4.out,OwnHists.nil _ _,(fun k e=> by cases e),(fun p hp=> by cases hp),HGS.out.below KB4.out,HV3.out.below KB4.out,HB3.out.trans (KB4.out.mono HB3.out.size),by omega,by omega,by omega,by omega⟩)
 clear R4 K4 E4 KB4 HB HB3 HGS HV3 hmk hw1 hg1
 generalize w3.heap.size=b7 at*
 generalize w2.heap.size=ad at*
 clear hsz
 go_upto_region 8 with fail
 have hfl:fullN ([]:List Bool)=0:=rfl
 go_loopg [8,9] m (fun g v8 v9 wx=> ∃(j x:Nat) (AH:Option Addr) (cH:Nat) (Q:List Pe),v8= .int .i64 (x:Int)∧v9= .int .i64 (j:Int)∧j+g=m∧Hid (x=fullN (L.take j))∧x≤j∧Hid (Q.length=j∧histsOf Q=(L.take j).map bare)∧Hid (LyAt w wx b7 ad k g1 k1 AH cH Q))
 case atStart=> exact ⟨0,0,none,0,[],rfl,rfl,by omega,Lib.hid rfl,Nat.le_refl _,Lib.hid ⟨rfl,rfl⟩,HLY⟩
 case round=>
  clear HLY hfl
  obtain ⟨j,x,AH,cH,Q,rfl,rfl,hjg,HXF,hxj,HQ,HH⟩:=hrel
  cases gk with
  | zero=>
   obtain rfl:j=m:=by omega
   have hge:¬(j:Int) < (j:Int):=by omega
   rw [List.take_of_length_le (by omega)]at HXF HQ
   have HCI:=Lib.hid (HH.out.conf HQ.out.2)
   have hql:=HQ.out.1
   have HB:=Lib.hid HH.out.below
   have HBX:=Lib.hid HH.out.box
   have HQL:=Lib.hid hql
   have HWK:=Lib.hid (cN_walk (n:=k) (L:=L) (by omega))
   have HRC:=Lib.hid (row_cN (n:=k) (L:=L) (by omega))
   have HPC:=Lib.hid (fun h=> prints_cN (n:=k) (L:=L) (by omega) h)
   rw [hql]at HCI HBX
   clear HH HQ hql
   go_upto_region 13 with fail
   by_cases c60:k≤60
   case neg=>
    have hmay:¬(k≤60∧(L=[]∨fullN L=k)):=fun h=> c60 h.1
    have b60:¬(k:Int)≤60:=by omega
    have b60d:decide ((k:Int)≤60)=false:=decide_eq_false b60
    clear c60
    have hr:rowC (cN k L)=[]:=Classical.byContradiction fun h=> hmay (HRC.out.1 h)
    have HPN:=Lib.hid (cf_printN wr (cN k L) Q (some ⟨ad,0,none⟩) k k AH j cH (some ⟨g1,0,none⟩) 1 k1 HCI.out (fit_cN k L) (by omega) (by decide) HWK.out.1 HWK.out.2 (HE.out _ HB.out).tab hr)
    have HRN:=Lib.hid (rightC_no hr)
    clear hr HRC HPC hmay
    go_wp2_with ((with_reducible refine load_all ?_ 28 (.tmp 7) ?_ b7 0 [.slice (some ⟨ad,0,none⟩) k k, .slice AH j cH, .slice (some ⟨g1,0,none⟩) 1 k1] #[.slice (some ⟨ad,0,none⟩) k k, .slice AH j cH, .slice (some ⟨g1,0,none⟩) 1 k1] ?_ _ ?_ Tryz.underlying28 ?_ ?_ ?_ ?_);rfl;rfl;go_must (rfl;exact rangeAt_row HBX.out;rfl;exact cf_sizeC;rfl))
    refine HPN.out.mono ?_
    rintro e w6 ⟨A6,k6,rfl,K6⟩
    replace HCI:=Lib.hid (HCI.out.below K6.out.2)
    replace HBX:=Lib.hid (HBX.out.below K6.out.2 HBX.out.lt)
    replace HB:=Lib.hid (HB.out.trans ((K6.out.2).mono HB.out.size))
    have HPE:=Lib.hid (cf_parse w6 A6 0 k6 [] K6.out.1 (by decide) (HE.out _ HB.out))
    rw [show parseC []= .err 3 from rfl]at HPE
    clear K6 HPN
    go_wp2_with fail
    refine HPE.out.mono ?_
    rintro e w7 ⟨rfl, -,K7⟩
    replace HCI:=Lib.hid (HCI.out.below K7.out)
    replace HBX:=Lib.hid (HBX.out.below K7.out HBX.out.lt)
    replace HB:=Lib.hid (HB.out.trans ((K7.out).mono HB.out.size))
    clear K7 HPE
    go_upto_region 15 with ((with_reducible refine store_all ?_ 28 (.tmp 12) (.tmp 65) ?_ w7.heap.size cz ?_ ?_ cz ?_ ?_ ?_ ?_ ?_);rfl;rfl;go_must (rfl;rfl;rfl;exact Row.at_ _ _ _ rfl rfl;exact cf_sizeC;exact conf_one _ _ _ _ _ _ _ _ _;intro w8 Rw8 Kw8 Ew8))
    have KX:=Lib.hid (show Below w7.heap.size w7 w8 from (kept_stored Kw8.out).below (Nat.le_refl _) (fun _ _ h=> h))
    replace HCI:=Lib.hid (HCI.out.below KX.out)
    replace HBX:=Lib.hid (HBX.out.below KX.out HBX.out.lt)
    replace HB:=Lib.hid (HB.out.trans ((KX.out).mono HB.out.size))
    have R12:=Rw8
    clear KX Kw8 Ew8 Rw8
    generalize w7.heap.size=b12 at*
    have HRI:=Lib.hid (cf_right w8 (cN k L) Q (some ⟨ad,0,none⟩) k k AH j cH (some ⟨g1,0,none⟩) 1 k1 HCI.out (fit_cN k L) (by omega) (by decide) HWK.out.1 HWK.out.2 (HE.out _ HB.out).tab)
    rw [HRN.out]at HRI
    clear HRN HCI HWK HE
    go_wp2_with ((with_reducible refine load_all ?_ 28 (.tmp 7) ?_ b7 0 [.slice (some ⟨ad,0,none⟩) k k, .slice AH j cH, .slice (some ⟨g1,0,none⟩) 1 k1] #[.slice (some ⟨ad,0,none⟩) k k, .slice AH j cH, .slice (some ⟨g1,0,none⟩) 1 k1] ?_ _ ?_ Tryz.underlying28 ?_ ?_ ?_ ?_);rfl;rfl;go_must (rfl;exact rangeAt_row HBX.out;rfl;exact cf_sizeC;rfl))
    refine HRI.out.mono ?_
    rintro e w9 ⟨rfl,K9⟩
    replace HB:=Lib.hid (HB.out.trans (K9.out.mono HB.out.size))
    go_wp2_with fail
    go_ret
    exact ⟨rfl,HB⟩
   have b60:(k:Int)≤60:=by omega
   have b60d:decide ((k:Int)≤60)=true:=decide_eq_true b60
   by_cases cj:j=0
   case pos=>
    have hmay:k≤60∧(L=[]∨fullN L=k):=⟨c60, .inl (List.eq_nil_of_length_eq_zero (by omega))⟩
    have bj:((j:Int)==0)=true:=by rw [cj];rfl
    clear cj
    have hr:rowC (cN k L)≠[]:=HRC.out.2 hmay
    obtain ⟨t,hpt⟩:=HPC.out hmay
    have HP:=Lib.hid hpt
    have HPN:=Lib.hid (cf_printY wr (cN k L) Q (some ⟨ad,0,none⟩) k k AH j cH (some ⟨g1,0,none⟩) 1 k1 HCI.out (fit_cN k L) (by omega) (by decide) HWK.out.1 HWK.out.2 (HE.out _ HB.out).tab (HE.out _ HB.out).js hpt.row)
    clear hr HRC HPC hmay hpt HWK
    go_wp2_with ((with_reducible refine load_all ?_ 28 (.tmp 7) ?_ b7 0 [.slice (some ⟨ad,0,none⟩) k k, .slice AH j cH, .slice (some ⟨g1,0,none⟩) 1 k1] #[.slice (some ⟨ad,0,none⟩) k k, .slice AH j cH, .slice (some ⟨g1,0,none⟩) 1 k1] ?_ _ ?_ Tryz.underlying28 ?_ ?_ ?_ ?_);rfl;rfl;go_must (rfl;exact rangeAt_row HBX.out;rfl;exact cf_sizeC;rfl))
    refine HPN.out.mono ?_
    rintro e w6 ⟨A6,k6,rfl,K6⟩
    replace HBX:=Lib.hid (HBX.out.below K6.out.2 HBX.out.lt)
    replace HB:=Lib.hid (HB.out.trans ((K6.out.2).mono HB.out.size))
    have HPE:=Lib.hid (cf_parseS w6 A6 t.length k6 t K6.out.1 HP.out.len HP.out.short (HE.out _ HB.out))
    rw [HP.out.back]at HPE
    clear K6 HPN HCI
    go_wp2_with fail
    refine HPE.out.mono ?_
    rintro e w7 ⟨Q2,X1,d1,X2,d2,X3,d3,rfl,K7⟩
    have hq2:Q2.length=j:=by
     have:=congrArg List.length K7.out.1.same
     unfold histsOf at this
     rw [List.length_map]at this
     have e2:(cN k L).hist.length=L.length:=List.length_map _
     omega
    have hid:(cN k L).ids.length=k:=List.length_replicate
    rw [hq2,hid,show (cN k L).rest.length=1 from rfl]
    replace HBX:=Lib.hid (HBX.out.below K7.out.2 HBX.out.lt)
    replace HB:=Lib.hid (HB.out.trans ((K7.out.2).mono HB.out.size))
    have HHX:=Lib.hid K7.out.1.hist
    rw [hq2]at HHX
    have HLY:=Lib.hid (show layersN (histsOf Q2)=x from by rw [K7.out.1.same,HXF.out];exact layers_bare L)
    clear K7 HPE HP hq2 hid HE HXF
    go_upto_region 15 with ((with_reducible refine store_all ?_ 28 (.tmp 12) (.tmp 65) ?_ w7.heap.size [.slice X1 k d1, .slice X2 j d2, .slice X3 1 d3] ?_ ?_ cz ?_ ?_ ?_ ?_ ?_);rfl;rfl;go_must (rfl;rfl;rfl;exact Row.at_ _ _ _ rfl rfl;exact cf_sizeC;exact conf_one _ _ _ _ _ _ _ _ _;intro w8 Rw8 Kw8 Ew8))
    have KX:=Lib.hid (show Below w7.heap.size w7 w8 from (kept_stored Kw8.out).below (Nat.le_refl _) (fun _ _ h=> h))
    replace HBX:=Lib.hid (HBX.out.below KX.out HBX.out.lt)
    replace HHX:=Lib.hid (HHX.out.below KX.out)
    replace HB:=Lib.hid (HB.out.trans ((KX.out).mono HB.out.size))
    have R12:=Rw8
    clear KX Kw8 Ew8 Rw8
    generalize w7.heap.size=b12 at*
    have y0:w8.cell? ⟨b12,0,none⟩=some (.slice X1 k d1):=R12.out.cell (i:=0) rfl
    have y1_:w8.cell? ⟨b12,1,none⟩=some (.slice X2 j d2):=R12.out.cell (i:=1) rfl
    have HLA:=Lib.hid (cf_layers w8 X2 j d2 Q2 HHX.out (by omega))
    rw [HLY.out]at HLA
    clear HLY HHX
    go_wp2_with fail
    refine HLA.out.mono ?_
    rintro e w9 ⟨rfl,K9⟩
    replace HB:=Lib.hid (HB.out.trans (K9.out.mono HB.out.size))
    go_wp2_with fail
    go_ret
    exact ⟨rfl,HB⟩
   have bj:((j:Int)==0)=false:=beq_eq_false_iff_ne.2 (by omega)
   have hLn:¬L=[]:=fun e=> by rw [e,List.length_nil]at hlen;omega
   by_cases cx:x=k
   case pos=>
    have hmay:k≤60∧(L=[]∨fullN L=k):=⟨c60, .inr (by rw [←HXF.out];exact cx)⟩
    have bx:((x:Int)==(k:Int))=true:=by rw [cx];exact beq_self_eq_true _
    clear cx cj hLn
    have hr:rowC (cN k L)≠[]:=HRC.out.2 hmay
    obtain ⟨t,hpt⟩:=HPC.out hmay
    have HP:=Lib.hid hpt
    have HPN:=Lib.hid (cf_printY wr (cN k L) Q (some ⟨ad,0,none⟩) k k AH j cH (some ⟨g1,0,none⟩) 1 k1 HCI.out (fit_cN k L) (by omega) (by decide) HWK.out.1 HWK.out.2 (HE.out _ HB.out).tab (HE.out _ HB.out).js hpt.row)
    clear hr HRC HPC hmay hpt HWK
    go_wp2_with ((with_reducible refine load_all ?_ 28 (.tmp 7) ?_ b7 0 [.slice (some ⟨ad,0,none⟩) k k, .slice AH j cH, .slice (some ⟨g1,0,none⟩) 1 k1] #[.slice (some ⟨ad,0,none⟩) k k, .slice AH j cH, .slice (some ⟨g1,0,none⟩) 1 k1] ?_ _ ?_ Tryz.underlying28 ?_ ?_ ?_ ?_);rfl;rfl;go_must (rfl;exact rangeAt_row HBX.out;rfl;exact cf_sizeC;rfl))
    refine HPN.out.mono ?_
    rintro e w6 ⟨A6,k6,rfl,K6⟩
    replace HBX:=Lib.hid (HBX.out.below K6.out.2 HBX.out.lt)
    replace HB:=Lib.hid (HB.out.trans ((K6.out.2).mono HB.out.size))
    have HPE:=Lib.hid (cf_parseS w6 A6 t.length k6 t K6.out.1 HP.out.len HP.out.short (HE.out _ HB.out))
    rw [HP.out.back]at HPE
    clear K6 HPN HCI
    go_wp2_with fail
    refine HPE.out.mono ?_
    rintro e w7 ⟨Q2,X1,d1,X2,d2,X3,d3,rfl,K7⟩
    have hq2:Q2.length=j:=by
     have:=congrArg List.length K7.out.1.same
     unfold histsOf at this
     rw [List.length_map]at this
     have e2:(cN k L).hist.length=L.length:=List.length_map _
     omega
    have hid:(cN k L).ids.length=k:=List.length_replicate
    rw [hq2,hid,show (cN k L).rest.length=1 from rfl]
    replace HBX:=Lib.hid (HBX.out.below K7.out.2 HBX.out.lt)
    replace HB:=Lib.hid (HB.out.trans ((K7.out.2).mono HB.out.size))
    have HHX:=Lib.hid K7.out.1.hist
    rw [hq2]at HHX
    have HLY:=Lib.hid (show layersN (histsOf Q2)=x from by rw [K7.out.1.same,HXF.out];exact layers_bare L)
    clear K7 HPE HP hq2 hid HE HXF
    go_upto_region 15 with ((with_reducible refine store_all ?_ 28 (.tmp 12) (.tmp 65) ?_ w7.heap.size [.slice X1 k d1, .slice X2 j d2, .slice X3 1 d3] ?_ ?_ cz ?_ ?_ ?_ ?_ ?_);rfl;rfl;go_must (rfl;rfl;rfl;exact Row.at_ _ _ _ rfl rfl;exact cf_sizeC;exact conf_one _ _ _ _ _ _ _ _ _;intro w8 Rw8 Kw8 Ew8))
    have KX:=Lib.hid (show Below w7.heap.size w7 w8 from (kept_stored Kw8.out).below (Nat.le_refl _) (fun _ _ h=> h))
    replace HBX:=Lib.hid (HBX.out.below KX.out HBX.out.lt)
    replace HHX:=Lib.hid (HHX.out.below KX.out)
    replace HB:=Lib.hid (HB.out.trans ((KX.out).mono HB.out.size))
    have R12:=Rw8
    clear KX Kw8 Ew8 Rw8
    generalize w7.heap.size=b12 at*
    have y0:w8.cell? ⟨b12,0,none⟩=some (.slice X1 k d1):=R12.out.cell (i:=0) rfl
    have y1_:w8.cell? ⟨b12,1,none⟩=some (.slice X2 j d2):=R12.out.cell (i:=1) rfl
    have HLA:=Lib.hid (cf_layers w8 X2 j d2 Q2 HHX.out (by omega))
    rw [HLY.out]at HLA
    clear HLY HHX
    go_wp2_with fail
    refine HLA.out.mono ?_
    rintro e w9 ⟨rfl,K9⟩
    replace HB:=Lib.hid (HB.out.trans (K9.out.mono HB.out.size))
    go_wp2_with fail
    go_ret
    exact ⟨rfl,HB⟩
   have hmay:¬(k≤60∧(L=[]∨fullN L=k)):=fun h=> h.2.elim hLn (fun e=> cx (by rw [HXF.out];exact e))
   have bx:((x:Int)==(k:Int))=false:=beq_eq_false_iff_ne.2 (fun e=> cx (by omega))
   clear cx cj hLn
   have hr:rowC (cN k L)=[]:=Classical.byContradiction fun h=> hmay (HRC.out.1 h)
   have HPN:=Lib.hid (cf_printN wr (cN k L) Q (some ⟨ad,0,none⟩) k k AH j cH (some ⟨g1,0,none⟩) 1 k1 HCI.out (fit_cN k L) (by omega) (by decide) HWK.out.1 HWK.out.2 (HE.out _ HB.out).tab hr)
   have HRN:=Lib.hid (rightC_no hr)
   clear hr HRC HPC hmay
   go_wp2_with ((with_reducible refine load_all ?_ 28 (.tmp 7) ?_ b7 0 [.slice (some ⟨ad,0,none⟩) k k, .slice AH j cH, .slice (some ⟨g1,0,none⟩) 1 k1] #[.slice (some ⟨ad,0,none⟩) k k, .slice AH j cH, .slice (some ⟨g1,0,none⟩) 1 k1] ?_ _ ?_ Tryz.underlying28 ?_ ?_ ?_ ?_);rfl;rfl;go_must (rfl;exact rangeAt_row HBX.out;rfl;exact cf_sizeC;rfl))
   refine HPN.out.mono ?_
   rintro e w6 ⟨A6,k6,rfl,K6⟩
   replace HCI:=Lib.hid (HCI.out.below K6.out.2)
   replace HBX:=Lib.hid (HBX.out.below K6.out.2 HBX.out.lt)
   replace HB:=Lib.hid (HB.out.trans ((K6.out.2).mono HB.out.size))
   have HPE:=Lib.hid (cf_parse w6 A6 0 k6 [] K6.out.1 (by decide) (HE.out _ HB.out))
   rw [show parseC []= .err 3 from rfl]at HPE
   clear K6 HPN
   go_wp2_with fail
   refine HPE.out.mono ?_
   rintro e w7 ⟨rfl, -,K7⟩
   replace HCI:=Lib.hid (HCI.out.below K7.out)
   replace HBX:=Lib.hid (HBX.out.below K7.out HBX.out.lt)
   replace HB:=Lib.hid (HB.out.trans ((K7.out).mono HB.out.size))
   clear K7 HPE
   go_upto_region 15 with ((with_reducible refine store_all ?_ 28 (.tmp 12) (.tmp 65) ?_ w7.heap.size cz ?_ ?_ cz ?_ ?_ ?_ ?_ ?_);rfl;rfl;go_must (rfl;rfl;rfl;exact Row.at_ _ _ _ rfl rfl;exact cf_sizeC;exact conf_one _ _ _ _ _ _ _ _ _;intro w8 Rw8 Kw8 Ew8))
   have KX:=Lib.hid (show Below w7.heap.size w7 w8 from (kept_stored Kw8.out).below (Nat.le_refl _) (fun _ _ h=> h))
   replace HCI:=Lib.hid (HCI.out.below KX.out)
   replace HBX:=Lib.hid (HBX.out.below KX.out HBX.out.lt)
   replace HB:=Lib.hid (HB.out.trans ((KX.out).mono HB.out.size))
   have R12:=Rw8
   clear KX Kw8 Ew8 Rw8
   generalize w7.heap.size=b12 at*
   have HRI:=Lib.hid (cf_right w8 (cN k L) Q (some ⟨ad,0,none⟩) k k AH j cH (some ⟨g1,0,none⟩) 1 k1 HCI.out (fit_cN k L) (by omega) (by decide) HWK.out.1 HWK.out.2 (HE.out _ HB.out).tab)
   rw [HRN.out]at HRI
   clear HRN HCI HWK HE
   go_wp2_with ((with_reducible refine load_all ?_ 28 (.tmp 7) ?_ b7 0 [.slice (some ⟨ad,0,none⟩) k k, .slice AH j cH, .slice (some ⟨g1,0,none⟩) 1 k1] #[.slice (some ⟨ad,0,none⟩) k k, .slice AH j cH, .slice (some ⟨g1,0,none⟩) 1 k1] ?_ _ ?_ Tryz.underlying28 ?_ ?_ ?_ ?_);rfl;rfl;go_must (rfl;exact rangeAt_row HBX.out;rfl;exact cf_sizeC;rfl))
   refine HRI.out.mono ?_
   rintro e w9 ⟨rfl,K9⟩
   replace HB:=Lib.hid (HB.out.trans (K9.out.mono HB.out.size))
   go_wp2_with fail
   go_ret
   exact ⟨rfl,HB⟩
  | succ g=>
   have hj:j < L.length:=by omega
   obtain ⟨bb,ob,rfl,hbb,_⟩:=(HL.out wr HH.out.below).at_ (by omega)
   have HBC:=Lib.hid (fun W (q:Below w.heap.size w W)=> (HL.out W q).cell hj)
   have hnx:L.take (j+1)=L.take j++[L[j]]:=List.take_succ_eq_append_getElem hj
   have HF2:=Lib.hid (show fullN (L.take (j+1))=x+if L[j]=true then 0 else 1 from by rw [hnx,full_snoc,←HXF.out])
   have HM2:=Lib.hid (show (L.take (j+1)).map bare=(L.take j).map bare++[bare L[j]]from by rw [hnx,List.map_append];rfl)
   clear hnx HXF
   generalize L[j]=bj at*
   have hjm:(j:Int) < (m:Int):=by omega
   have hj0:(0:Int)≤(j:Int):=by omega
   have hql:=HQ.out.1
   have HQM:=Lib.hid HQ.out.2
   clear HQ hj
   have hbe:=built_em14 bj (some ⟨g1,0,none⟩) 1 k1
   go_upto_region 10 with fail
   have HHD:=Lib.hid (show LyAt w wr.drew b7 ad k g1 k1 AH cH Q from HH.out.next (below_drewN (Below.refl _ _) 1))
   clear HH
   refine wp_region_noPanic ?_
   refine wp_region_held_drew (S:=fun x=> x.cell? ⟨bb,ob+j,none⟩=some (.bool bj)) (by kernel_rfl) (HBC.out _ HHD.out.below) (fun hHeld=> ?_)
   refine wpAnyH_take (i:=0) (v:= .pointer (some ⟨b7,1,none⟩)) rfl (by kernel_rfl) (by kernel_rfl) (by kernel_rfl) (fun _ _ _ h=> h) (Or.inl ⟨by rfl,fun _ _=> rfl⟩) hHeld ?_
   simp only [List.getElem_toArray,List.getElem_cons_zero,Act.put,List.setIfInBounds_toArray,List.set_cons_zero,List.set_cons_succ]
   refine wpAnyH_take (i:=2) (v:= .slice (some ⟨bb,ob,none⟩) m c) rfl (by kernel_rfl) (by kernel_rfl) (by kernel_rfl) (fun _ _ _ h=> h) (Or.inl ⟨by rfl,fun _ _=> rfl⟩) hHeld ?_
   simp only [List.getElem_toArray,List.getElem_cons_succ,List.getElem_cons_zero,Act.put,List.setIfInBounds_toArray,List.set_cons_zero,List.set_cons_succ]
   refine wpAnyH_take (i:=3) (v:= .int .i64 (j:Int)) rfl (by kernel_rfl) (by kernel_rfl) (by kernel_rfl) (fun _ _ _ h=> h) (Or.inl ⟨by rfl,fun _ _=> rfl⟩) hHeld ?_
   simp only [List.getElem_toArray,List.getElem_cons_succ,List.getElem_cons_zero,Act.put,List.setIfInBounds_toArray,List.set_cons_zero,List.set_cons_succ]
   refine wpAnyH_take (i:=4) (v:= .pointer (some ⟨bb,ob+j,none⟩)) rfl (by kernel_rfl) (by kernel_rfl) (by kernel_rfl) (fun _ _ _ h=> h) (Or.inl ⟨by rfl, ?_⟩) hHeld ?_
   ·intro x hx;go_simp
   simp only [List.getElem_toArray,List.getElem_cons_succ,List.getElem_cons_zero,Act.put,List.setIfInBounds_toArray,List.set_cons_zero,List.set_cons_succ]
   refine wpAnyH_take (i:=5) (v:= .bool bj) rfl (by kernel_rfl) (by kernel_rfl) (by kernel_rfl) (fun _ _ _ h=> h) (Or.inl ⟨by rfl, ?_⟩) hHeld ?_
   ·intro x hx;go_simp
   simp only [List.getElem_toArray,List.getElem_cons_succ,List.getElem_cons_zero,Act.put,List.setIfInBounds_toArray,List.set_cons_zero,List.set_cons_succ]
   refine wpAnyH_take (i:=6) (v:= .slice (some ⟨g1,0,none⟩) 1 k1) rfl (by kernel_rfl) (by kernel_rfl) (by kernel_rfl) (fun _ _ _ h=> h) (Or.inl ⟨by rfl,fun _ _=> rfl⟩) hHeld ?_
   simp only [List.getElem_toArray,List.getElem_cons_succ,List.getElem_cons_zero,Act.put,List.setIfInBounds_toArray,List.set_cons_zero,List.set_cons_succ]
   refine wpAnyH_take (i:=7) (v:= .agg #[.string ⟨#[]⟩, .bool bj, .slice (some ⟨g1,0,none⟩) 1 k1]) rfl (by kernel_rfl) (by kernel_rfl) (by kernel_rfl) (fun _ _ _ h=> h) (Or.inl ⟨by rfl, ?_⟩) hHeld ?_
   ·intro x hx;go_simp
   simp only [List.getElem_toArray,List.getElem_cons_succ,List.getElem_cons_zero,Act.put,List.setIfInBounds_toArray,List.set_cons_zero,List.set_cons_succ]
   generalize wr.drew=wq at*
   have HHA:=HHD
   clear HHD
   refine wpAnyH_ready (rs:=[1,8]) (by kernel_rfl) (by simp) ?_
   refine AllReadyH.cons rfl (fun K hK=> ?_) (AllReadyH.cons rfl (fun K hK=> ?_) AllReadyH.nil)
   ·skip
    refine cf_op_run rfl (.slice AH Q.length cH) wq (by have x1:=HHA.out.box.cell (i:=1) rfl;go_simp) ?_
    refine hK.out _ _ (HBC.out _ HHA.out.below) (fun hHeld=> ?_)
    clear hK K
    simp only [List.getElem_toArray,List.getElem_cons_succ,List.getElem_cons_zero,Act.put,List.setIfInBounds_toArray,List.set_cons_zero,List.set_cons_succ]
    refine wpAnyH_ready (rs:=[8]) (by kernel_rfl) (by simp) ?_
    refine AllReadyH.cons rfl (fun K hK=> ?_) AllReadyH.nil
    refine cf_op_run rfl (.slice (some ⟨wq.heap.size,0,none⟩) 1 1) (wq.alloc (.cells #[.string ⟨#[]⟩, .bool bj, .slice (some ⟨g1,0,none⟩) 1 k1] 42)) (by refine cf_run_v ?_;simp only [List.map_toArray,List.map_cons,List.map_nil];exact run_build_hist14 wq _ _ _) ?_
    have KA:=Lib.hid (below_alloc wq (.cells #[.string ⟨#[]⟩, .bool bj, .slice (some ⟨g1,0,none⟩) 1 k1] 42))
    have HRA:=Lib.hid (show (wq.alloc (.cells #[.string ⟨#[]⟩, .bool bj, .slice (some ⟨g1,0,none⟩) 1 k1] 42)).rangeAt wq.heap.size 0 (Pe.enc ⟨[],bj,⟨some ⟨g1,0,none⟩,k1,none0⟩⟩)from rangeAt_row (Row.new wq 42 [.string ⟨#[]⟩, .bool bj, .slice (some ⟨g1,0,none⟩) 1 k1]))
    replace HHA:=Lib.hid (HHA.out.next KA.out)
    refine hK.out _ _ (HBC.out _ HHA.out.below) (fun hHeld=> ?_)
    clear hK K KA
    generalize wq.alloc (.cells #[.string ⟨#[]⟩, .bool bj, .slice (some ⟨g1,0,none⟩) 1 k1] 42)=wa at*
    generalize wq.heap.size=qa at*
    simp only [List.getElem_toArray,List.getElem_cons_succ,List.getElem_cons_zero,Act.put,List.setIfInBounds_toArray,List.set_cons_zero,List.set_cons_succ]
    refine wpAnyH_ready (rs:=[9]) (by kernel_rfl) (by simp) ?_
    refine AllReadyH.cons rfl (fun K hK=> ?_) AllReadyH.nil
    refine step_append_hists rfl _ _ rfl w.heap.size (.slice AH Q.length cH) Q rfl HHA.out.own qa ⟨[],bj,⟨some ⟨g1,0,none⟩,k1,none0⟩⟩ rfl HRA.out HHA.out.none_ (fun b o e=> by cases e;exact ⟨HHA.out.lt.2.2.1,Nat.lt_trans HHA.out.lt.1 HHA.out.box.lt,fun e2=> by have h1:=HHA.out.far _ e2;have h2:=HHA.out.lt.1;omega⟩) (by omega) HHA.out.below.size ?_
    intro v2 w5 h1 h2 h3
    obtain ⟨AH2,cH2,rfl,z1,f1,HB5,HGR⟩:=HHA.out.grow (Below.refl _ _) h1.out h2.out h3.out rfl
    refine hK.out _ _ (HBC.out _ HB5.out) (fun hHeld=> ?_)
    clear hK K h1 h2 h3 HHA HRA
    simp only [List.getElem_toArray,List.getElem_cons_succ,List.getElem_cons_zero,Act.put,List.setIfInBounds_toArray,List.set_cons_zero,List.set_cons_succ]
    refine wpAnyH_take (i:=10) (v:= .pointer (some ⟨b7,1,none⟩)) rfl (by kernel_rfl) (by kernel_rfl) (by kernel_rfl) (fun _ _ _ h=> h) (Or.inl ⟨by rfl,fun _ _=> rfl⟩) hHeld ?_
    simp only [List.getElem_toArray,List.getElem_cons_succ,List.getElem_cons_zero,Act.put,List.setIfInBounds_toArray,List.set_cons_zero,List.set_cons_succ]
    refine wpAnyH_ready (rs:=[11]) (by kernel_rfl) (by simp) ?_
    refine AllReadyH.cons rfl (fun K hK=> ?_) AllReadyH.nil
    refine cf_op_skip rfl (w5.setCell ⟨b7,1,none⟩ (.slice AH2 (Q++[(⟨[],bj,⟨some ⟨g1,0,none⟩,k1,none0⟩⟩:Pe)]).length cH2)) (by go_simp) ?_
    refine hK.out _ _ (HBC.out _ HGR.out.below) (fun hHeld=> ?_)
    clear hK K z1 f1 HB5
    simp only [List.getElem_toArray,List.getElem_cons_succ,List.getElem_cons_zero,Act.put]
    refine wpAnyH_done (by kernel_rfl) ?_ _
    refine NoPanic.normal ?_
    generalize w5.setCell ⟨b7,1,none⟩ (.slice AH2 (Q++[(⟨[],bj,⟨some ⟨g1,0,none⟩,k1,none0⟩⟩:Pe)]).length cH2)=w6 at*
    have hq2:(Q++[(⟨[],bj,⟨some ⟨g1,0,none⟩,k1,none0⟩⟩:Pe)]).length=j+1:=by rw [List.length_append,hql];rfl
    have HQ2:=Lib.hid (show (Q++[(⟨[],bj,⟨some ⟨g1,0,none⟩,k1,none0⟩⟩:Pe)]).length=j+1∧histsOf (Q++[(⟨[],bj,⟨some ⟨g1,0,none⟩,k1,none0⟩⟩:Pe)])=(L.take (j+1)).map bare from ⟨hq2,by rw [HM2.out,←HQM.out];unfold histsOf;rw [List.map_append];rfl⟩)
    have xb:=HBC.out w6 HGR.out.below
    clear hq2 HM2 HQM HBC hbe hql hHeld
    generalize Q++[(⟨[],bj,⟨some ⟨g1,0,none⟩,k1,none0⟩⟩:Pe)]=Q2 at*
    cases bj with
    | true=>
     have HS2:=Lib.hid (show x=fullN (L.take (j+1))from HF2.out.symm)
     clear HF2
     go_wp2_with fail
     go_roundg g
     case measure=> omega
     case rel=> exact ⟨j+1,x,AH2,cH2,Q2,by go_num,by go_num,by omega,HS2,by omega,HQ2,HGR⟩
    | false=>
     have HS2:=Lib.hid (show x+1=fullN (L.take (j+1))from HF2.out.symm)
     clear HF2
     go_wp2_with fail
     go_roundg g
     case measure=> omega
     case rel=> exact ⟨j+1,x+1,AH2,cH2,Q2,by go_num,by go_num,by omega,HS2,by omega,HQ2,HGR⟩
   ·skip
    refine cf_op_run rfl (.slice (some ⟨wq.heap.size,0,none⟩) 1 1) (wq.alloc (.cells #[.string ⟨#[]⟩, .bool bj, .slice (some ⟨g1,0,none⟩) 1 k1] 42)) (by refine cf_run_v ?_;simp only [List.map_toArray,List.map_cons,List.map_nil];exact run_build_hist14 wq _ _ _) ?_
    have KA:=Lib.hid (below_alloc wq (.cells #[.string ⟨#[]⟩, .bool bj, .slice (some ⟨g1,0,none⟩) 1 k1] 42))
    have HRA:=Lib.hid (show (wq.alloc (.cells #[.string ⟨#[]⟩, .bool bj, .slice (some ⟨g1,0,none⟩) 1 k1] 42)).rangeAt wq.heap.size 0 (Pe.enc ⟨[],bj,⟨some ⟨g1,0,none⟩,k1,none0⟩⟩)from rangeAt_row (Row.new wq 42 [.string ⟨#[]⟩, .bool bj, .slice (some ⟨g1,0,none⟩) 1 k1]))
    replace HHA:=Lib.hid (HHA.out.next KA.out)
    refine hK.out _ _ (HBC.out _ HHA.out.below) (fun hHeld=> ?_)
    clear hK K KA
    generalize wq.alloc (.cells #[.string ⟨#[]⟩, .bool bj, .slice (some ⟨g1,0,none⟩) 1 k1] 42)=wa at*
    generalize wq.heap.size=qa at*
    simp only [List.getElem_toArray,List.getElem_cons_succ,List.getElem_cons_zero,Act.put,List.setIfInBounds_toArray,List.set_cons_zero,List.set_cons_succ]
    refine wpAnyH_ready (rs:=[1]) (by kernel_rfl) (by simp) ?_
    refine AllReadyH.cons rfl (fun K hK=> ?_) AllReadyH.nil
    refine cf_op_run rfl (.slice AH Q.length cH) wa (by have x1:=HHA.out.box.cell (i:=1) rfl;go_simp) ?_
    refine hK.out _ _ (HBC.out _ HHA.out.below) (fun hHeld=> ?_)
    clear hK K
    simp only [List.getElem_toArray,List.getElem_cons_succ,List.getElem_cons_zero,Act.put,List.setIfInBounds_toArray,List.set_cons_zero,List.set_cons_succ]
    refine wpAnyH_ready (rs:=[9]) (by kernel_rfl) (by simp) ?_
    refine AllReadyH.cons rfl (fun K hK=> ?_) AllReadyH.nil
    refine step_append_hists rfl _ _ rfl w.heap.size (.slice AH Q.length cH) Q rfl HHA.out.own qa ⟨[],bj,⟨some ⟨g1,0,none⟩,k1,none0⟩⟩ rfl HRA.out HHA.out.none_ (fun b o e=> by cases e;exact ⟨HHA.out.lt.2.2.1,Nat.lt_trans HHA.out.lt.1 HHA.out.box.lt,fun e2=> by have h1:=HHA.out.far _ e2;have h2:=HHA.out.lt.1;omega⟩) (by omega) HHA.out.below.size ?_
    intro v2 w5 h1 h2 h3
    obtain ⟨AH2,cH2,rfl,z1,f1,HB5,HGR⟩:=HHA.out.grow (Below.refl _ _) h1.out h2.out h3.out rfl
    refine hK.out _ _ (HBC.out _ HB5.out) (fun hHeld=> ?_)
    clear hK K h1 h2 h3 HHA HRA
    simp only [List.getElem_toArray,List.getElem_cons_succ,List.getElem_cons_zero,Act.put,List.setIfInBounds_toArray,List.set_cons_zero,List.set_cons_succ]
    refine wpAnyH_take (i:=10) (v:= .pointer (some ⟨b7,1,none⟩)) rfl (by kernel_rfl) (by kernel_rfl) (by kernel_rfl) (fun _ _ _ h=> h) (Or.inl ⟨by rfl,fun _ _=> rfl⟩) hHeld ?_
    simp only [List.getElem_toArray,List.getElem_cons_succ,List.getElem_cons_zero,Act.put,List.setIfInBounds_toArray,List.set_cons_zero,List.set_cons_succ]
    refine wpAnyH_ready (rs:=[11]) (by kernel_rfl) (by simp) ?_
    refine AllReadyH.cons rfl (fun K hK=> ?_) AllReadyH.nil
    refine cf_op_skip rfl (w5.setCell ⟨b7,1,none⟩ (.slice AH2 (Q++[(⟨[],bj,⟨some ⟨g1,0,none⟩,k1,none0⟩⟩:Pe)]).length cH2)) (by go_simp) ?_
    refine hK.out _ _ (HBC.out _ HGR.out.below) (fun hHeld=> ?_)
    clear hK K z1 f1 HB5
    simp only [List.getElem_toArray,List.getElem_cons_succ,List.getElem_cons_zero,Act.put]
    refine wpAnyH_done (by kernel_rfl) ?_ _
    refine NoPanic.normal ?_
    generalize w5.setCell ⟨b7,1,none⟩ (.slice AH2 (Q++[(⟨[],bj,⟨some ⟨g1,0,none⟩,k1,none0⟩⟩:Pe)]).length cH2)=w6 at*
    have hq2:(Q++[(⟨[],bj,⟨some ⟨g1,0,none⟩,k1,none0⟩⟩:Pe)]).length=j+1:=by rw [List.length_append,hql];rfl
    have HQ2:=Lib.hid (show (Q++[(⟨[],bj,⟨some ⟨g1,0,none⟩,k1,none0⟩⟩:Pe)]).length=j+1∧histsOf (Q++[(⟨[],bj,⟨some ⟨g1,0,none⟩,k1,none0⟩⟩:Pe)])=(L.take (j+1)).map bare from ⟨hq2,by rw [HM2.out,←HQM.out];unfold histsOf;rw [List.map_append];rfl⟩)
    have xb:=HBC.out w6 HGR.out.below
    clear hq2 HM2 HQM HBC hbe hql hHeld
    generalize Q++[(⟨[],bj,⟨some ⟨g1,0,none⟩,k1,none0⟩⟩:Pe)]=Q2 at*
    cases bj with
    | true=>
     have HS2:=Lib.hid (show x=fullN (L.take (j+1))from HF2.out.symm)
     clear HF2
     go_wp2_with fail
     go_roundg g
     case measure=> omega
     case rel=> exact ⟨j+1,x,AH2,cH2,Q2,by go_num,by go_num,by omega,HS2,by omega,HQ2,HGR⟩
    | false=>
     have HS2:=Lib.hid (show x+1=fullN (L.take (j+1))from HF2.out.symm)
     clear HF2
     go_wp2_with fail
     go_roundg g
     case measure=> omega
     case rel=> exact ⟨j+1,x+1,AH2,cH2,Q2,by go_num,by go_num,by omega,HS2,by omega,HQ2,HGR⟩
end Go.Proofs.YtgmangikcfakgaaGreatDoor
