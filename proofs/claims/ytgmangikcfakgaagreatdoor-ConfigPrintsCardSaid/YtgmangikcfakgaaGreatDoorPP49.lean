/-
  ConfigPrints (P14.1, P14.3): what is right, and printed, and how many layers a history has, is what the document says: for all configs that come in.
-/
import Derived.Test.YtgmangikcfakgaaGreatDoorPP35
import Derived.Test.YtgmangikcfakgaaGreatDoorPP48
import Derived.Test.YtgmangikcfakgaaGreatDoorTie
import Derived.Test.YtgmangikcfakgaaGreatDoorCards
import Derived.SevenTiedAt
import Derived.Deep.DeepHandedRow
namespace Go.Proofs.YtgmangikcfakgaaGreatDoor
open Go.ChangeShapes Go.WideShapes Go.ChangeAt Go.WideMaps Go.WideElems Go.RowKit Sh Jt Js Jo
set_option maxRecDepth 100000 in
theorem configPrints_lifted (os:Os) (started:os.Started) (H:Type) (enc:TypeId×Value→H):
  ReturnsInHanded {} Tryz.checked os 4 .any (fun w args=> (Rows.configPrintsSpec.pre enc Tryz.prog Tryz.f4 [] false w args∧laidMetH Tryz.prog listed w)∧sizedMet enc Tryz.prog Tryz.f4 (OpenSpec.ofChange Rows.configPrintsSpec) false w args)
   (Rows.configPrintsSpec.post enc Tryz.prog Tryz.f4 false true false false):=by
 refine returnsInHanded_of_change_and (C:=Tryz.checked) (X:=fun w _=> laidMetH Tryz.prog listed w) (fun _ _ _ hh h=> h.of_heap hh) ownKnob_none started (by kernel_rfl) Tryz.func4
  (ChangeSpec.witness_shaped (enc:=enc) (C:=Tryz.checked) (os:=os) (X:=fun w _=> laidMetH Tryz.prog listed w) false (World.laidAll Tryz.prog os listed) #[.agg #[.slice none 0 0, .slice none 0 0, .slice none 0 0]] 8 (World.laidAll_os _ _ _) (World.shaped_of_ZipB (by kernel_rfl) (by kernel_rfl)) (by kernel_rfl) (by kernel_rfl) (by kernel_rfl) (by rw [MakeChecks.laidMetH_plain _ _ _ (by kernel_rfl)];exact laidMet_laidAll _ (by kernel_rfl) (by kernel_rfl))) ?_
 intro W base args ds gs before hval0 hW _ hsz0 hL _
 have hval:∀(j:Nat) t v,Tryz.f4.params[j]? =some t→args[j]? =some v→Value.okWide Tryz.prog W .any base t v:=hval0
 have hW':=hW
 have hlt:=hW.lt
 obtain ⟨p,q,hA0,hV,rfl,hfz,hnd⟩:=hW
 have hA:DataW.TrodAll enc Tryz.prog W 0 (fun _=> true) true Tryz.f4.params.toList args.toList ds p:=hA0
 rw [Tryz.params4]at hA hval
 obtain ⟨v0,d0,rfl,rfl,h0⟩:=trodAll_one hA
 obtain ⟨rfl,rfl⟩:=trodVars_none hV
 obtain ⟨c0,Q0,A0,n0,k0,B0,m0,l0,D0,r0,q0,rfl,hC0,hn0,hm0,hr0,hH0⟩:=open_conf (hval 0 28 v0 rfl rfl) h0 (each_le hsz0 (j:=0) rfl rfl)
 clear hA0 hval0
 simp only [List.append_nil]at hW' hlt
 refine (configPrints_all W c0 Q0 A0 n0 k0 B0 m0 l0 D0 r0 q0 hC0 hn0 hm0 hr0 hH0 (env_of_laid hL)).mono fun e W' ⟨he,hb⟩=> ?_
 subst he
 replace hb:=hb.out
 have k0:=Below.trod laidOut_ok (by kernel_rfl) (of_decide_eq_true (by kernel_rfl)) h0 hb (fun x hx=> hlt x hx)
 exact ⟨_,rfl,_,_,_,[],p,[],hW',trodAll_mk1 (shut_bool Tryz.underlying4 _),trodAll_mk1 k0,rfl,hb.frame _,fun h=> by cases h⟩
theorem configPrints_said:Rows.ConfigPrintsSaid:=
 OpenClaim.holds_of_wide 4 Tryz.f4 rfl rfl rfl rfl rfl rfl rfl ⟨rfl,rfl,rfl,rfl,rfl⟩ rfl rfl rfl rfl rfl (by kernel_rfl) Tryz.func4 (by kernel_rfl)
  (of_decide_eq_true (by kernel_rfl)) (by unfold Func.isWrapper;first | (rw [if_pos (by decide+kernel)];kernel_rfl) | (rw [if_neg (by decide+kernel)];exact ⟨rfl,rfl⟩))
  (fun os started H enc _=> configPrints_lifted os started H enc)
theorem configPrints_card:Rows.ConfigPrintsCardSaid:=
 Claim7.holds_tied_plain_at .later [] _ _ _ _
  configPrints_said (fun _ h=> by cases h) (by kernel_rfl) (fun _ h=> by cases h) configPrints_row_tie rfl ⟨rfl,rfl⟩ (by kernel_rfl) rfl
  (fun f fn hf hfn=> by
   obtain rfl:f=4:=Option.some.inj ((show Tryz.prog.funcNamed "onionskin/onionskinlaw14.ConfigPrints" =some 4 by kernel_rfl).symm.trans hf) |>.symm
   obtain rfl:fn=Tryz.f4:=(Option.some.inj (Tryz.func4.symm.trans hfn)).symm
   exact ⟨by kernel_rfl,fun j t ht=> by
    rw [Tryz.params4]at ht
    have hm:t∈[28]:=by simpa using Array.mem_of_getElem? ht
    have hall:([28].all fun u=> !Tryz.prog.wantsStandIn u)=true:=by kernel_rfl
    exact (show Tryz.prog.wantsStandIn t=false by simpa using List.all_eq_true.1 hall t hm)⟩)
  (by kernel_rfl)
#print axioms configPrints_card
end Go.Proofs.YtgmangikcfakgaaGreatDoor
