/-
  ConfigLayers (P14.2, P14.3): a history with entries has a layer for each digest, and one without entries needs none: for all numbers and truths that come in.
-/
import Derived.Test.YtgmangikcfakgaaGreatDoorPL34
import Derived.Test.YtgmangikcfakgaaGreatDoorPL48
import Derived.Test.YtgmangikcfakgaaGreatDoorTie
import Derived.Test.YtgmangikcfakgaaGreatDoorCards
import Derived.SevenTiedAt
import Derived.Deep.DeepHandedRow
namespace Go.Proofs.YtgmangikcfakgaaGreatDoor
open Go.ChangeShapes Go.WideShapes Go.ChangeAt Go.WideMaps Go.WideElems Go.RowKit Sh Jt Js Jo
set_option maxRecDepth 100000 in
theorem configLayers_lifted (os:Os) (started:os.Started) (H:Type) (enc:TypeId×Value→H):
  ReturnsInHanded {} Tryz.checked os 6 .any (fun w args=> (Rows.configLayersSpec.pre enc Tryz.prog Tryz.f6 [] false w args∧laidMetH Tryz.prog listed w)∧sizedMet enc Tryz.prog Tryz.f6 (OpenSpec.ofChange Rows.configLayersSpec) false w args)
   (Rows.configLayersSpec.post enc Tryz.prog Tryz.f6 false true false false):=by
 refine returnsInHanded_of_change_and (C:=Tryz.checked) (X:=fun w _=> laidMetH Tryz.prog listed w) (fun _ _ _ hh h=> h.of_heap hh) ownKnob_none started (by kernel_rfl) Tryz.func6
  (ChangeSpec.witness_shaped (enc:=enc) (C:=Tryz.checked) (os:=os) (X:=fun w _=> laidMetH Tryz.prog listed w) false (World.laidAll Tryz.prog os listed) #[.int .i64 0, .slice none 0 0] 8 (World.laidAll_os _ _ _) (World.shaped_of_ZipB (by kernel_rfl) (by kernel_rfl)) (by kernel_rfl) (by kernel_rfl) (by kernel_rfl) (by rw [MakeChecks.laidMetH_plain _ _ _ (by kernel_rfl)];exact laidMet_laidAll _ (by kernel_rfl) (by kernel_rfl))) ?_
 intro W base args ds gs before hval0 hW _ _ hL _
 have hval:∀(j:Nat) t v,Tryz.f6.params[j]? =some t→args[j]? =some v→Value.okWide Tryz.prog W .any base t v:=hval0
 have hW':=hW
 have hlt:=hW.lt
 obtain ⟨p,q,hA0,hV,rfl,hfz,hnd⟩:=hW
 have hA:DataW.TrodAll enc Tryz.prog W 0 (fun _=> true) true Tryz.f6.params.toList args.toList ds p:=hA0
 rw [Tryz.params6]at hA hval
 obtain ⟨v0,v1,d0,d1,p0,p1,rfl,rfl,rfl,h0,h1⟩:=trodAll_two hA
 obtain ⟨rfl,rfl⟩:=trodVars_none hV
 obtain ⟨n0,rfl,lo0,hi0⟩:=open_i64 (hval 0 3 v0 rfl rfl) h0
 obtain ⟨A1,n1,c1,L1,rfl,hL1,hn1⟩:=open_bools14 (hval 1 39 v1 rfl rfl) h1
 clear hA0 hval0
 simp only [List.append_nil]at hW' hlt
 refine (configLayers_all W n0 lo0 hi0 A1 n1 c1 L1 hL1 (env_of_laid hL)).mono fun e W' ⟨he,hb⟩=> ?_
 subst he
 replace hb:=hb.out
 have k0:=Below.trod laidOut_ok (by kernel_rfl) (of_decide_eq_true (by kernel_rfl)) h0 hb (fun x hx=> hlt x (by simp [hx]))
 have k1:=Below.trod laidOut_ok (by kernel_rfl) (of_decide_eq_true (by kernel_rfl)) h1 hb (fun x hx=> hlt x (by simp [hx]))
 exact ⟨_,rfl,_,_,_,[],p0++p1,[],hW',trodAll_mk1 (shut_bool Tryz.underlying4 _),trodAll_mk2 k0 k1,rfl,hb.frame _,fun h=> by cases h⟩
theorem configLayers_said:Rows.ConfigLayersSaid:=
 OpenClaim.holds_of_wide 6 Tryz.f6 rfl rfl rfl rfl rfl rfl rfl ⟨rfl,rfl,rfl,rfl,rfl⟩ rfl rfl rfl rfl rfl (by kernel_rfl) Tryz.func6 (by kernel_rfl)
  (of_decide_eq_true (by kernel_rfl)) (by unfold Func.isWrapper;first | (rw [if_pos (by decide+kernel)];kernel_rfl) | (rw [if_neg (by decide+kernel)];exact ⟨rfl,rfl⟩))
  (fun os started H enc _=> configLayers_lifted os started H enc)
theorem configLayers_card:Rows.ConfigLayersCardSaid:=
 Claim7.holds_tied_plain_at .later [] _ _ _ _
  configLayers_said (fun _ h=> by cases h) (by kernel_rfl) (fun _ h=> by cases h) configLayers_row_tie rfl ⟨rfl,rfl⟩ (by kernel_rfl) rfl
  (fun f fn hf hfn=> by
   obtain rfl:f=6:=Option.some.inj ((show Tryz.prog.funcNamed "onionskin/onionskinlaw14.ConfigLayers" =some 6 by kernel_rfl).symm.trans hf) |>.symm
   obtain rfl:fn=Tryz.f6:=(Option.some.inj (Tryz.func6.symm.trans hfn)).symm
   exact ⟨by kernel_rfl,fun j t ht=> by
    rw [Tryz.params6]at ht
    have hm:t∈[3,39]:=by simpa using Array.mem_of_getElem? ht
    have hall:([3,39].all fun u=> !Tryz.prog.wantsStandIn u)=true:=by kernel_rfl
    exact (show Tryz.prog.wantsStandIn t=false by simpa using List.all_eq_true.1 hall t hm)⟩)
  (by kernel_rfl)
#print axioms configLayers_card
end Go.Proofs.YtgmangikcfakgaaGreatDoor
