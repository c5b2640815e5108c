/-
  The reference's turn.
-/
import Derived.Test.YtknfpfhbplmffaaDoorShaWords
namespace Go.Proofs.YtknfpfhbplmffaaDoor
open Go.RowKit Sh
set_option maxHeartbeats 400000 in
theorem turn_any (x : W) (n : Int) (w : World) (hn : 1 ≤ n) (hn' : n ≤ 31) :
    Calls Tryd.prog 28 #[.int .u32 (n32 x), .int .u64 n] w fun e w' => e = .returned (.int .u32 (n32 (rotr x n.toNat))) ∧ w = w' := by
  have h0 := n32_nonneg x
  have h1 := n32_lt x
  go_enter Tryd.func28, Tryd.ntmps28
  go_wp2
  go_ret
  refine ⟨ret_int ?_, rfl⟩
  have e1 : (32 - n).toNat = 32 - n.toNat := by omega
  rw [e1, shl_fold, shr_fold, or_fold]
  rfl
end Go.Proofs.YtknfpfhbplmffaaDoor
