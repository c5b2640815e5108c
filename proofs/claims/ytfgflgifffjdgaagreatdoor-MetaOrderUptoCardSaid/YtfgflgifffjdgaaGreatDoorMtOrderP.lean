/-
  MetaOrder (P13.1), where what it reads is of bulk at most 1048576: in which order members stand, and blanks, do not matter.
-/
import Derived.Test.YtfgflgifffjdgaaGreatDoorMtOpen
import Derived.Test.YtfgflgifffjdgaaGreatDoorMtOr
import Derived.Test.YtfgflgifffjdgaaGreatDoorTie
import Derived.Test.YtfgflgifffjdgaaGreatDoorCards
import Derived.SevenTiedAt
import Derived.Deep.DeepHandedRow
namespace Go.Proofs.YtfgflgifffjdgaaGreatDoor
open Go.ChangeShapes Go.WideShapes Go.ChangeAt Go.WideMaps Go.WideElems Go.RowKit Sh Jt Js Jo

theorem metaOrder_bulk {H : Type} {d0 d1 : DataW H} (h : Rows.uptoSmall H ([d0, d1] ++ []) = true) : Rows.uptoBulk d0 ≤ 1048576 := by
  have h1 := of_decide_eq_true h
  simp only [List.append_nil, Rows.uptoBulkAll] at h1
  omega
set_option maxRecDepth 100000 in
theorem metaOrderUpto_lifted (os : Os) (started : os.Started) (H : Type) (enc : TypeId × Value → H) (F : Stop.Interp) :
    ReturnsInHanded {} Tryz.checked os 6 .any ((Rows.OpenSpec.upto Rows.metaOrderSpec).preRow enc Tryz.prog Tryz.f6 Rows.metaOrderUptoRow.domain false Rows.metaOrderUptoRow.laid) (((Rows.OpenSpec.upto Rows.metaOrderSpec).at F).post enc Tryz.prog Tryz.f6 false true false false) := by
  have hx : DataW.whole enc Tryz.prog ((World.laidAll Tryz.prog os listed).forCall (fun _ _ => 0) ⟨#[], #[.agg (mv noD (.slice none 0 0) (.slice none 0 0)).toArray, .int .i64 0], []⟩).memory Tryz.f6.params.toList Rows.metaOrderSpec.vars false #[.agg (mv noD (.slice none 0 0) (.slice none 0 0)).toArray, .int .i64 0].toList 8 = some ([.agg [.agg [.lit (.string []), .agg (List.replicate 32 (.lit (.int .u8 0))), .lit (.int .i64 0)], .nil, .nil], .lit (.int .i64 0)], [], []) := by kernel_rfl
  have hok : Input.okWideB Tryz.prog ((World.laidAll Tryz.prog os listed).forCall (fun _ _ => 0) ⟨#[], #[.agg (mv noD (.slice none 0 0) (.slice none 0 0)).toArray, .int .i64 0], []⟩) 6 ⟨#[], #[.agg (mv noD (.slice none 0 0) (.slice none 0 0)).toArray, .int .i64 0], []⟩ = true := by kernel_rfl
  refine returnsInHanded_of_row (C := Tryz.checked) (s := Rows.OpenSpec.upto Rows.metaOrderSpec) ownKnob_none started (by kernel_rfl) Tryz.func6
    ⟨World.laidAll Tryz.prog os listed, fun _ _ => 0, ⟨#[], #[.agg (mv noD (.slice none 0 0) (.slice none 0 0)).toArray, .int .i64 0], []⟩, World.laidAll_os _ _ _, World.shaped_of_ZipB (by kernel_rfl) (by kernel_rfl), (Input.okWide_of_okWideB (base := 0) hok).1, (Input.okWide_of_okWideB hok).2,
      OpenSpec.preRow_of_cond 8 hx (by kernel_rfl) (fun k hk => by cases hk; kernel_rfl) (by kernel_rfl) (by rw [MakeChecks.laidMetH_plain _ _ _ (by kernel_rfl)]; exact laidMet_laidAll _ (by kernel_rfl) (by kernel_rfl)), by
      simp only [Assume.holds]
      exact ⟨by simp, by simp, fun _ => Modest.zero, by simp, by simp⟩⟩ ?_
  intro W base args ds gs before hval0 hW _ hcond hsz0 hL _ _
  have hval : ∀ (j : Nat) t v, Tryz.f6.params[j]? = some t → args[j]? = some v → Value.okWide Tryz.prog W .any base t v := hval0
  have hW' := hW
  have hlt := hW.lt
  obtain ⟨p, q, hA0, hV, rfl, hfz, hnd⟩ := hW
  have hA : DataW.TrodAll enc Tryz.prog W 0 (fun _ => true) true Tryz.f6.params.toList args.toList ds p := hA0
  rw [Tryz.params6] at hA hval
  obtain ⟨v0, v1, d0, d1, p0, p1, rfl, rfl, rfl, h0, h1⟩ := trodAll_two hA
  obtain ⟨rfl, rfl⟩ := trodVars_none hV
  have hbk := metaOrder_bulk (hcond _ rfl)
  obtain ⟨m0, A0, n0, c0, B0, k0, q0, rfl, hM0, hn0, hk0, hH0, hW0, hF0⟩ := open_man (hval 0 31 v0 rfl rfl) h0 (each_le hsz0 (j := 0) rfl rfl)
  obtain ⟨n1, rfl, lo1, hi1⟩ := open_i64 (hval 1 3 v1 rfl rfl) h1
  clear hA0 hval0
  simp only [List.append_nil] at hW' hlt
  refine (metaOrder_all W m0 A0 n0 c0 B0 k0 q0 hM0 hn0 hk0 hH0 (hF0 hbk) n1 (env_of_laid hL)).mono fun e W' ⟨he, hb⟩ => ?_
  subst he
  replace hb := hb.out
  have k0 := Below.trod laidOut_ok (by kernel_rfl) (of_decide_eq_true (by kernel_rfl)) h0 hb (fun x hx => hlt x (by simp [hx]))
  have k1 := Below.trod laidOut_ok (by kernel_rfl) (of_decide_eq_true (by kernel_rfl)) h1 hb (fun x hx => hlt x (by simp [hx]))
  exact ⟨_, rfl, _, _, _, [], p0 ++ p1, [], hW', trodAll_mk1 (shut_bool Tryz.underlying4 _), trodAll_mk2 k0 k1, rfl, hb.frame _, fun h => by cases h⟩

theorem metaOrderUpto_said : Rows.MetaOrderUptoSaid :=
  OpenClaim.holds_of_cond 6 Tryz.f6 rfl rfl rfl rfl rfl rfl rfl ⟨rfl, rfl, rfl, rfl, rfl⟩ rfl rfl rfl rfl rfl (by kernel_rfl) Tryz.func6 (by kernel_rfl)
    (of_decide_eq_true (by kernel_rfl)) (by unfold Func.isWrapper; first | (rw [if_pos (by decide +kernel)]; kernel_rfl) | (rw [if_neg (by decide +kernel)]; exact ⟨rfl, rfl⟩))
    (fun os started H enc _ F => by rw [OpenClaim.pre_eq_preRow]; exact metaOrderUpto_lifted os started H enc F)

theorem metaOrderUpto_card : Rows.MetaOrderUptoCardSaid :=
  Claim7.holds_tied_plain_at .later [] _ _ _ _ metaOrderUpto_said (fun _ h => by cases h) (by kernel_rfl) (fun _ h => by cases h) metaOrderUpto_row_tie rfl ⟨rfl, rfl⟩ (by kernel_rfl) rfl
    (fun f fn hf hfn => by
      obtain rfl : f = 6 := Option.some.inj ((show Tryz.prog.funcNamed "onionskin/onionskinlaw13.MetaOrder" = some 6 by kernel_rfl).symm.trans hf) |>.symm
      obtain rfl : fn = Tryz.f6 := (Option.some.inj (Tryz.func6.symm.trans hfn)).symm
      exact ⟨by kernel_rfl, fun j t ht => by
        rw [Tryz.params6] at ht
        have hm : t ∈ [31, 3] := by simpa using Array.mem_of_getElem? ht
        have hall : ([31, 3].all fun u => !Tryz.prog.wantsStandIn u) = true := by kernel_rfl
        exact (show Tryz.prog.wantsStandIn t = false by simpa using List.all_eq_true.1 hall t hm)⟩)
    (by kernel_rfl)
#print axioms metaOrderUpto_card
end Go.Proofs.YtfgflgifffjdgaaGreatDoor
