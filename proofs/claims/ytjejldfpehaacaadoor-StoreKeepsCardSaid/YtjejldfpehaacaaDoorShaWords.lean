/-
  What the functions on single words answer: rotr, the four sigmas, choice, majority, and the reference's turn.
-/
import Derived.Test.YtjejldfpehaacaaDoorProg
import Derived.Test.YtjejldfpehaacaaDoorShaFns
import Derived.WalkKit
import Derived.WalkSpells
import Derived.WalkLawsBesides
import Derived.Deep.QuietTactic
import Derived.BigQuiet
namespace Go.Proofs.YtjejldfpehaacaaDoor
open Go.RowKit Sh

theorem ret_int {k : IntKind} {a b : Int} (h : a = b) : Ending.returned (.int k a) = .returned (.int k b) := by rw [h]

set_option maxHeartbeats 400000 in
theorem rotr_any (x : W) (n : Int) (w : World) (hn : 1 ≤ n) (hn' : n ≤ 31) :
    Calls Tryd.prog 80 #[.int .u32 (n32 x), .int .i64 n] w fun e w' => e = .returned (.int .u32 (n32 (rotr x n.toNat))) ∧ ∃ k, w' = w.drewN k := by
  have h0 := n32_nonneg x
  have h1 := n32_lt x
  go_enter Tryd.func80, Tryd.ntmps80
  go_wp2
  go_quiet (fail)
  go_wp2
  go_ret
  refine ⟨ret_int ?_, _, rfl⟩
  have e1 : (32 - n).toNat = 32 - n.toNat := by omega
  rw [e1, shl_fold, shr_fold, or_fold]
  rfl
set_option maxHeartbeats 400000 in
theorem sg0_any (x : W) (w : World) :
    Calls Tryd.prog 79 #[.int .u32 (n32 x)] w fun e w' => e = .returned (.int .u32 (n32 (sg0 x))) ∧ ∃ k, w' = w.drewN k := by
  have h0 := n32_nonneg x
  have h1 := n32_lt x
  go_enter Tryd.func79, Tryd.ntmps79
  go_wp2_with (go_at_call 80; refine (rotr_any _ _ _ (by omega) (by omega)).mono ?_; rintro e w' ⟨rfl, k, rfl⟩)
  go_ret
  refine ⟨ret_int ?_, _, rfl⟩
  rw [shr_fold3, xor_fold, xor_fold]
  rfl
set_option maxHeartbeats 400000 in
theorem sg1_any (x : W) (w : World) :
    Calls Tryd.prog 78 #[.int .u32 (n32 x)] w fun e w' => e = .returned (.int .u32 (n32 (sg1 x))) ∧ ∃ k, w' = w.drewN k := by
  have h0 := n32_nonneg x
  have h1 := n32_lt x
  go_enter Tryd.func78, Tryd.ntmps78
  go_wp2_with (go_at_call 80; refine (rotr_any _ _ _ (by omega) (by omega)).mono ?_; rintro e w' ⟨rfl, k, rfl⟩)
  go_ret
  refine ⟨ret_int ?_, _, rfl⟩
  rw [shr_fold10, xor_fold, xor_fold]
  rfl
set_option maxHeartbeats 400000 in
theorem bg0_any (x : W) (w : World) :
    Calls Tryd.prog 75 #[.int .u32 (n32 x)] w fun e w' => e = .returned (.int .u32 (n32 (bg0 x))) ∧ ∃ k, w' = w.drewN k := by
  have h0 := n32_nonneg x
  have h1 := n32_lt x
  go_enter Tryd.func75, Tryd.ntmps75
  go_wp2_with (go_at_call 80; refine (rotr_any _ _ _ (by omega) (by omega)).mono ?_; rintro e w' ⟨rfl, k, rfl⟩)
  go_ret
  refine ⟨ret_int ?_, _, rfl⟩
  rw [xor_fold, xor_fold]
  rfl
set_option maxHeartbeats 400000 in
theorem bg1_any (x : W) (w : World) :
    Calls Tryd.prog 73 #[.int .u32 (n32 x)] w fun e w' => e = .returned (.int .u32 (n32 (bg1 x))) ∧ ∃ k, w' = w.drewN k := by
  have h0 := n32_nonneg x
  have h1 := n32_lt x
  go_enter Tryd.func73, Tryd.ntmps73
  go_wp2_with (go_at_call 80; refine (rotr_any _ _ _ (by omega) (by omega)).mono ?_; rintro e w' ⟨rfl, k, rfl⟩)
  go_ret
  refine ⟨ret_int ?_, _, rfl⟩
  rw [xor_fold, xor_fold]
  rfl
set_option maxHeartbeats 400000 in
theorem ch_any (x y z : W) (w : World) :
    Calls Tryd.prog 74 #[.int .u32 (n32 x), .int .u32 (n32 y), .int .u32 (n32 z)] w fun e w' => e = .returned (.int .u32 (n32 (ch x y z))) ∧ w = w' := by
  go_enter Tryd.func74, Tryd.ntmps74
  go_wp2
  go_ret
  refine ⟨ret_int ?_, rfl⟩
  rw [not_fold, and_fold, and_fold, xor_fold]
  rfl
set_option maxHeartbeats 400000 in
theorem maj_any (x y z : W) (w : World) :
    Calls Tryd.prog 76 #[.int .u32 (n32 x), .int .u32 (n32 y), .int .u32 (n32 z)] w fun e w' => e = .returned (.int .u32 (n32 (maj x y z))) ∧ w = w' := by
  go_enter Tryd.func76, Tryd.ntmps76
  go_wp2
  go_ret
  refine ⟨ret_int ?_, rfl⟩
  rw [and_fold, and_fold, and_fold, xor_fold, xor_fold]
  rfl
end Go.Proofs.YtjejldfpehaacaaDoor
