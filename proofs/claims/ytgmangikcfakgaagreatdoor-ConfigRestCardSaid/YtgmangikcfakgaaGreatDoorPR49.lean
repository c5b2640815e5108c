/-
  ConfigRest (P14.2, P14.3): what stands beside rootfs and history is kept, whatever it is: for all rows and texts that come in.
-/
import Derived.Test.YtgmangikcfakgaaGreatDoorPR35
import Derived.Test.YtgmangikcfakgaaGreatDoorPR48
import Derived.Test.YtgmangikcfakgaaGreatDoorTie
import Derived.Test.YtgmangikcfakgaaGreatDoorCards
import Derived.SevenTiedAt
import Derived.Deep.DeepHandedRow
namespace Go.Proofs.YtgmangikcfakgaaGreatDoor
open Go.ChangeShapes Go.WideShapes Go.ChangeAt Go.WideMaps Go.WideElems Go.RowKit Sh Jt Js Jo
set_option maxRecDepth 100000 in
theorem configRest_lifted (os:Os) (started:os.Started) (H:Type) (enc:TypeId×Value→H):
  ReturnsInHanded {} Tryz.checked os 7 .any (fun w args=> (Rows.configRestSpec.pre enc Tryz.prog Tryz.f7 [] false w args∧laidMetH Tryz.prog listed w)∧sizedMet enc Tryz.prog Tryz.f7 (OpenSpec.ofChange Rows.configRestSpec) false w args)
   (Rows.configRestSpec.post enc Tryz.prog Tryz.f7 false true false false):=by
 refine returnsInHanded_of_change_and (C:=Tryz.checked) (X:=fun w _=> laidMetH Tryz.prog listed w) (fun _ _ _ hh h=> h.of_heap hh) ownKnob_none started (by kernel_rfl) Tryz.func7
  (ChangeSpec.witness_shaped (enc:=enc) (C:=Tryz.checked) (os:=os) (X:=fun w _=> laidMetH Tryz.prog listed w) false (World.laidAll Tryz.prog os listed) #[.slice none 0 0, .string ⟨#[]⟩] 8 (World.laidAll_os _ _ _) (World.shaped_of_ZipB (by kernel_rfl) (by kernel_rfl)) (by kernel_rfl) (by kernel_rfl) (by kernel_rfl) (by rw [MakeChecks.laidMetH_plain _ _ _ (by kernel_rfl)];exact laidMet_laidAll _ (by kernel_rfl) (by kernel_rfl))) ?_
 intro W base args ds gs before hval0 hW _ hsz0 hL _
 have hval:∀(j:Nat) t v,Tryz.f7.params[j]? =some t→args[j]? =some v→Value.okWide Tryz.prog W .any base t v:=hval0
 have hW':=hW
 have hlt:=hW.lt
 obtain ⟨p,q,hA0,hV,rfl,hfz,hnd⟩:=hW
 have hA:DataW.TrodAll enc Tryz.prog W 0 (fun _=> true) true Tryz.f7.params.toList args.toList ds p:=hA0
 rw [Tryz.params7]at hA hval
 obtain ⟨v0,v1,d0,d1,p0,p1,rfl,rfl,rfl,h0,h1⟩:=trodAll_two hA
 obtain ⟨rfl,rfl⟩:=trodVars_none hV
 obtain ⟨A0,n0,c0,L0,rfl,hP0,hn0,hs0⟩:=open_vals14 (hval 0 26 v0 rfl rfl) h0 (each_le hsz0 (j:=0) rfl rfl)
 obtain ⟨b1,rfl⟩:=open_str14 (hval 1 9 v1 rfl rfl) h1
 clear hA0 hval0
 simp only [List.append_nil]at hW' hlt
 refine (configRest_all W A0 n0 c0 L0 hP0 hn0 hs0 b1 (env_of_laid hL)).mono fun e W' ⟨he,hb⟩=> ?_
 subst he
 replace hb:=hb.out
 have k0:=Below.trod laidOut_ok (by kernel_rfl) (of_decide_eq_true (by kernel_rfl)) h0 hb (fun x hx=> hlt x (by simp [hx]))
 have k1:=Below.trod laidOut_ok (by kernel_rfl) (of_decide_eq_true (by kernel_rfl)) h1 hb (fun x hx=> hlt x (by simp [hx]))
 exact ⟨_,rfl,_,_,_,[],p0++p1,[],hW',trodAll_mk1 (shut_bool Tryz.underlying4 _),trodAll_mk2 k0 k1,rfl,hb.frame _,fun h=> by cases h⟩
theorem configRest_said:Rows.ConfigRestSaid:=
 OpenClaim.holds_of_wide 7 Tryz.f7 rfl rfl rfl rfl rfl rfl rfl ⟨rfl,rfl,rfl,rfl,rfl⟩ rfl rfl rfl rfl rfl (by kernel_rfl) Tryz.func7 (by kernel_rfl)
  (of_decide_eq_true (by kernel_rfl)) (by unfold Func.isWrapper;first | (rw [if_pos (by decide+kernel)];kernel_rfl) | (rw [if_neg (by decide+kernel)];exact ⟨rfl,rfl⟩))
  (fun os started H enc _=> configRest_lifted os started H enc)
theorem configRest_card:Rows.ConfigRestCardSaid:=
 Claim7.holds_tied_plain_at .later [] _ _ _ _
  configRest_said (fun _ h=> by cases h) (by kernel_rfl) (fun _ h=> by cases h) configRest_row_tie rfl ⟨rfl,rfl⟩ (by kernel_rfl) rfl
  (fun f fn hf hfn=> by
   obtain rfl:f=7:=Option.some.inj ((show Tryz.prog.funcNamed "onionskin/onionskinlaw14.ConfigRest" =some 7 by kernel_rfl).symm.trans hf) |>.symm
   obtain rfl:fn=Tryz.f7:=(Option.some.inj (Tryz.func7.symm.trans hfn)).symm
   exact ⟨by kernel_rfl,fun j t ht=> by
    rw [Tryz.params7]at ht
    have hm:t∈[26,9]:=by simpa using Array.mem_of_getElem? ht
    have hall:([26,9].all fun u=> !Tryz.prog.wantsStandIn u)=true:=by kernel_rfl
    exact (show Tryz.prog.wantsStandIn t=false by simpa using List.all_eq_true.1 hall t hm)⟩)
  (by kernel_rfl)
#print axioms configRest_card
end Go.Proofs.YtgmangikcfakgaaGreatDoor
