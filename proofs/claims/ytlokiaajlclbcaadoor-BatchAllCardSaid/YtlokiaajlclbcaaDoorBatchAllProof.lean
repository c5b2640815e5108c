/-
  For every room, every two slices of slices of bytes and either way to end a batch the law BatchAll answers true, and they read as they read; the words Kt are tied to the program's text. No further condition.
-/
import Derived.Test.YtlokiaajlclbcaaDoorOpens
import Derived.Test.YtlokiaajlclbcaaDoorOpenFour
import Derived.Test.YtlokiaajlclbcaaDoorBatchAllWalk
import Derived.Test.YtlokiaajlclbcaaDoorTie
import Derived.Test.YtlokiaajlclbcaaDoorCards
import Derived.SevenTiedAt
namespace Go.Proofs.YtlokiaajlclbcaaDoor
open Go.ChangeShapes Go.WideShapes Go.ChangeAt Go.WideMaps Go.WideElems Go.RowKit Sh

set_option maxRecDepth 100000 in
theorem batchAll_lifted (os : Os) (started : os.Started) (H : Type) (enc : TypeId × Value → H) :
    ReturnsInHanded {} Tryd.checked os 5 .any (fun w args => (Rows.batchAllSpec.pre enc Tryd.prog Tryd.f5 [] false w args ∧ laidMetH Tryd.prog [("onionskin/sha.roundWords", Rows.laid_onionskin_sha_roundWords)] w) ∧ sizedMet enc Tryd.prog Tryd.f5 (OpenSpec.ofChange Rows.batchAllSpec) false w args)
      (Rows.batchAllSpec.post enc Tryd.prog Tryd.f5 false true false false) := by
  refine returnsInHanded_of_change_and (C := Tryd.checked) (X := fun w _ => laidMetH Tryd.prog [("onionskin/sha.roundWords", Rows.laid_onionskin_sha_roundWords)] w) (fun _ _ _ hh h => h.of_heap hh) ownKnob_none started (by kernel_rfl) Tryd.func5
    (ChangeSpec.witness_shaped (enc := enc) (C := Tryd.checked) (os := os) (X := fun w _ => laidMetH Tryd.prog [("onionskin/sha.roundWords", Rows.laid_onionskin_sha_roundWords)] w) false (World.doorLaid Tryd.prog 400 os) #[.int .i64 0, .slice none 0 0, .slice none 0 0, .bool false] 8 rfl (World.shaped_of_RefB (by kernel_rfl) (by kernel_rfl)) (by kernel_rfl) (by kernel_rfl) (by kernel_rfl) (door_met os _)) ?_
  intro W base args ds gs before hval0 hW _ hsz0 hL _
  have hval : ∀ (j : Nat) t v, Tryd.f5.params[j]? = some t → args[j]? = some v → Value.okWide Tryd.prog W .any base t v := hval0
  have hW' := hW
  have hlt := hW.lt
  obtain ⟨p, q, hA0, hV, rfl, hfz, hnd⟩ := hW
  have hA : DataW.TrodAll enc Tryd.prog W 0 (fun _ => true) true Tryd.f5.params.toList args.toList ds p := hA0
  rw [Tryd.params5] at hA hval
  obtain ⟨v0, v1, v2, v3, d0, d1, d2, d3, p0, p1, p2, p3, rfl, rfl, rfl, h0, h1, h2, h3⟩ := trodAll_four hA
  obtain ⟨rfl, rfl⟩ := trodVars_none hV
  obtain ⟨n0, rfl, lo0, hi0⟩ := open_i64 (hval 0 3 v0 rfl rfl) h0
  obtain ⟨A1, n1, c1, X1, C1, B1, rfl, hm1, hR1, hB1⟩ := open_rows_sized (hval 1 22 v1 rfl rfl) h1 hsz0 (j := 1) rfl rfl
  obtain ⟨A2, n2, c2, X2, C2, B2, rfl, hm2, hR2, hB2⟩ := open_rows_sized (hval 2 22 v2 rfl rfl) h2 hsz0 (j := 2) rfl rfl
  obtain ⟨x3, rfl, _, _⟩ := Go.RowKit.open_bool Tryd.underlying4 (hval 3 4 v3 rfl rfl) h3
  clear hA0 hval0
  simp only [List.append_nil] at hW' hlt
  refine (batchAll_all W n0 A1 n1 c1 X1 C1 B1 hm1 (kt_of_laid hL) hR1 hB1 A2 n2 c2 X2 C2 B2 hm2 hR2 hB2 x3).mono fun e W' ⟨he, hb⟩ => ?_
  subst he
  have k0 := Below.trod laidOut_ok (by kernel_rfl) (of_decide_eq_true (by kernel_rfl)) h0 hb (fun x hx => hlt x (by simp [hx]))
  have k1 := Below.trod laidOut_ok (by kernel_rfl) (of_decide_eq_true (by kernel_rfl)) h1 hb (fun x hx => hlt x (by simp [hx]))
  have k2 := Below.trod laidOut_ok (by kernel_rfl) (of_decide_eq_true (by kernel_rfl)) h2 hb (fun x hx => hlt x (by simp [hx]))
  have k3 := Below.trod laidOut_ok (by kernel_rfl) (of_decide_eq_true (by kernel_rfl)) h3 hb (fun x hx => hlt x (by simp [hx]))
  exact ⟨_, rfl, _, _, _, [], p0 ++ p1 ++ p2 ++ p3, [], hW', trodAll_mk1 (shut_bool Tryd.underlying4 _), (by rw [List.append_assoc, List.append_assoc]; exact trodAll_mk4 k0 k1 k2 k3), rfl, hb.frame _, fun h => by cases h⟩

theorem batchAll_said : Rows.BatchAllSaid :=
  OpenClaim.holds_of_wide 5 Tryd.f5 rfl rfl rfl rfl rfl rfl rfl ⟨rfl, rfl, rfl, rfl, rfl⟩ rfl rfl rfl rfl rfl (by kernel_rfl) Tryd.func5 (by kernel_rfl)
    (of_decide_eq_true (by kernel_rfl)) (by unfold Func.isWrapper; first | (rw [if_pos (by decide +kernel)]; kernel_rfl) | (rw [if_neg (by decide +kernel)]; exact ⟨rfl, rfl⟩))
    (fun os started H enc _ => batchAll_lifted os started H enc)

theorem batchAll_card : Rows.BatchAllCardSaid :=
  Claim7.holds_tied_plain_at .later [] [.data] true _ false
    batchAll_said (fun _ h => by cases h) (by kernel_rfl) (fun _ h => by cases h) batchAll_row_tie rfl ⟨rfl, rfl⟩ (by kernel_rfl) rfl
    (fun f fn hf hfn => by
      obtain rfl : f = 5 := Option.some.inj ((show Tryd.prog.funcNamed "onionskin/onionskinlaw04.BatchAll" = some 5 by kernel_rfl).symm.trans hf) |>.symm
      obtain rfl : fn = Tryd.f5 := (Option.some.inj (Tryd.func5.symm.trans hfn)).symm
      exact ⟨by kernel_rfl, fun j t ht => by
        rw [Tryd.params5] at ht
        have hm : t ∈ [3, 22, 22, 4] := by simpa using Array.mem_of_getElem? ht
        have hall : ([3, 22, 22, 4].all fun u => !Tryd.prog.wantsStandIn u) = true := by kernel_rfl
        exact (show Tryd.prog.wantsStandIn t = false by simpa using List.all_eq_true.1 hall t hm)⟩)
    (by kernel_rfl)
#print axioms batchAll_card
end Go.Proofs.YtlokiaajlclbcaaDoor
