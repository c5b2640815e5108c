/-
  What the functions on single words answer: rotr, the four sigmas, choice, majority, and the reference's turn.
-/
import Derived.Test.YtknfpfhbplmffaaDoorProg
import Derived.Test.YtknfpfhbplmffaaDoorShaFns
import Derived.WalkKit
import Derived.WalkSpells
import Derived.WalkLawsBesides
import Derived.Deep.QuietTactic
import Derived.BigQuiet
namespace Go.Proofs.YtknfpfhbplmffaaDoor
open Go.RowKit Sh

theorem ret_int {k : IntKind} {a b : Int} (h : a = b) : Ending.returned (.int k a) = .returned (.int k b) := by rw [h]

set_option maxHeartbeats 400000 in
theorem rotr_any (x : W) (n : Int) (w : World) (hn : 1 ≤ n) (hn' : n ≤ 31) :
    Calls Tryd.prog 45 #[.int .u32 (n32 x), .int .i64 n] w fun e w' => e = .returned (.int .u32 (n32 (rotr x n.toNat))) ∧ ∃ k, w' = w.drewN k := by
  have h0 := n32_nonneg x
  have h1 := n32_lt x
  go_enter Tryd.func45, Tryd.ntmps45
  go_wp2
  go_quiet (fail)
  go_wp2
  go_ret
  refine ⟨ret_int ?_, _, rfl⟩
  have e1 : (32 - n).toNat = 32 - n.toNat := by omega
  rw [e1, shl_fold, shr_fold, or_fold]
  rfl
set_option maxHeartbeats 400000 in
theorem sg0_any (x : W) (w : World) :
    Calls Tryd.prog 44 #[.int .u32 (n32 x)] w fun e w' => e = .returned (.int .u32 (n32 (sg0 x))) ∧ ∃ k, w' = w.drewN k := by
  have h0 := n32_nonneg x
  have h1 := n32_lt x
  go_enter Tryd.func44, Tryd.ntmps44
  go_wp2_with (go_at_call 45; refine (rotr_any _ _ _ (by omega) (by omega)).mono ?_; rintro e w' ⟨rfl, k, rfl⟩)
  go_ret
  refine ⟨ret_int ?_, _, rfl⟩
  rw [shr_fold3, xor_fold, xor_fold]
  rfl
set_option maxHeartbeats 400000 in
theorem sg1_any (x : W) (w : World) :
    Calls Tryd.prog 43 #[.int .u32 (n32 x)] w fun e w' => e = .returned (.int .u32 (n32 (sg1 x))) ∧ ∃ k, w' = w.drewN k := by
  have h0 := n32_nonneg x
  have h1 := n32_lt x
  go_enter Tryd.func43, Tryd.ntmps43
  go_wp2_with (go_at_call 45; refine (rotr_any _ _ _ (by omega) (by omega)).mono ?_; rintro e w' ⟨rfl, k, rfl⟩)
  go_ret
  refine ⟨ret_int ?_, _, rfl⟩
  rw [shr_fold10, xor_fold, xor_fold]
  rfl
set_option maxHeartbeats 400000 in
theorem bg0_any (x : W) (w : World) :
    Calls Tryd.prog 39 #[.int .u32 (n32 x)] w fun e w' => e = .returned (.int .u32 (n32 (bg0 x))) ∧ ∃ k, w' = w.drewN k := by
  have h0 := n32_nonneg x
  have h1 := n32_lt x
  go_enter Tryd.func39, Tryd.ntmps39
  go_wp2_with (go_at_call 45; refine (rotr_any _ _ _ (by omega) (by omega)).mono ?_; rintro e w' ⟨rfl, k, rfl⟩)
  go_ret
  refine ⟨ret_int ?_, _, rfl⟩
  rw [xor_fold, xor_fold]
  rfl
set_option maxHeartbeats 400000 in
theorem bg1_any (x : W) (w : World) :
    Calls Tryd.prog 37 #[.int .u32 (n32 x)] w fun e w' => e = .returned (.int .u32 (n32 (bg1 x))) ∧ ∃ k, w' = w.drewN k := by
  have h0 := n32_nonneg x
  have h1 := n32_lt x
  go_enter Tryd.func37, Tryd.ntmps37
  go_wp2_with (go_at_call 45; refine (rotr_any _ _ _ (by omega) (by omega)).mono ?_; rintro e w' ⟨rfl, k, rfl⟩)
  go_ret
  refine ⟨ret_int ?_, _, rfl⟩
  rw [xor_fold, xor_fold]
  rfl
set_option maxHeartbeats 400000 in
theorem ch_any (x y z : W) (w : World) :
    Calls Tryd.prog 38 #[.int .u32 (n32 x), .int .u32 (n32 y), .int .u32 (n32 z)] w fun e w' => e = .returned (.int .u32 (n32 (ch x y z))) ∧ w = w' := by
  go_enter Tryd.func38, Tryd.ntmps38
  go_wp2
  go_ret
  refine ⟨ret_int ?_, rfl⟩
  rw [not_fold, and_fold, and_fold, xor_fold]
  rfl
set_option maxHeartbeats 400000 in
theorem maj_any (x y z : W) (w : World) :
    Calls Tryd.prog 40 #[.int .u32 (n32 x), .int .u32 (n32 y), .int .u32 (n32 z)] w fun e w' => e = .returned (.int .u32 (n32 (maj x y z))) ∧ w = w' := by
  go_enter Tryd.func40, Tryd.ntmps40
  go_wp2
  go_ret
  refine ⟨ret_int ?_, rfl⟩
  rw [and_fold, and_fold, and_fold, xor_fold, xor_fold]
  rfl
end Go.Proofs.YtknfpfhbplmffaaDoor
