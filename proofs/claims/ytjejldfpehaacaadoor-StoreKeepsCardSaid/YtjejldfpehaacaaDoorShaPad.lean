/-
  What 'padding' answers: what stands behind a message of so many bytes, in a block of its own.
-/
import Derived.Test.YtjejldfpehaacaaDoorShaLay
namespace Go.Proofs.YtjejldfpehaacaaDoor
open Go.RowKit Sh

def zerosOf (n : Nat) : Nat := (119 - n % 64) % 64
def padA (n : Nat) : List UInt8 := 128 :: List.replicate (zerosOf n) 0
def padT (n k : Nat) : List UInt8 := List.replicate (8 - k) 0 ++ ((List.range 8).drop (8 - k)).map (byteAt (n * 8))
/-- The padding, of whose last eight bytes the last k are laid. -/
def padZ (n k : Nat) : List Value := (padA n).map v8 ++ (padT n k).map v8
theorem padZ_all (n : Nat) : padZ n 8 = (padding n).map v8 := by
  rw [padZ, ← List.map_append]
  rfl
theorem padZ_zero (n : Nat) : (List.replicate (zerosOf n + 9) (v8 0)).set 0 (v8 128) = padZ n 0 := by
  have h : zerosOf n + 9 = (zerosOf n + 8) + 1 := by omega
  have h8 : padT n 0 = List.replicate 8 0 := rfl
  rw [h, List.replicate_succ, List.set_cons_zero, padZ, h8, padA, List.map_cons, List.map_replicate, List.map_replicate, List.cons_append, List.replicate_append_replicate]
theorem padZ_length (n k : Nat) (hk : k ≤ 8) : (padZ n k).length = zerosOf n + 9 := by
  simp only [padZ, padA, padT, List.length_append, List.length_map, List.length_cons, List.length_replicate, List.length_drop, List.length_range]
  omega
theorem padZ_step (n k : Nat) (hk : k < 8) : (padZ n k).set (zerosOf n + 8 - k) (v8 (byteAt (n * 8) (7 - k))) = padZ n (k + 1) := by
  unfold padZ
  have hl : ((padA n).map v8).length = zerosOf n + 1 := by simp [padA]
  rw [List.set_append_right _ _ (by omega), hl]
  congr 1
  rw [show zerosOf n + 8 - k - (zerosOf n + 1) = 7 - k by omega]
  have h : k = 0 ∨ k = 1 ∨ k = 2 ∨ k = 3 ∨ k = 4 ∨ k = 5 ∨ k = 6 ∨ k = 7 := by omega
  rcases h with rfl | rfl | rfl | rfl | rfl | rfl | rfl | rfl <;> rfl
theorem byte_fold (n k : Nat) (hk : k < 8) : IntKind.u8.wrap ((n : Int) / 2 ^ (8 * k)) = n8 (byteAt n (7 - k)) := by
  unfold n8 byteAt
  rw [IntKind.wrap_u8, show 8 * (7 - (7 - k)) = 8 * k by omega, Nat.shiftRight_eq_div_pow]
  simp

theorem madeCells_one (z : Value) (n : Nat) : madeCells #[z] n = (List.replicate n z).toArray := by
  apply Array.ext
  · simp [size_madeCells]
  · intro i h1 h2
    simp [madeCells, Nat.mod_one]
theorem infoU8 : (Tryd.prog.info? 5).map (fun i => (i.zero, i.size, i.bytes)) = some (some (.int .u8 0), 1, 1) := by kernel_rfl
theorem pad_size (n : Nat) : 1 + ((119 : Int) - n) % 64 + 8 = ((zerosOf n + 9 : Nat) : Int) := by
  unfold zerosOf
  omega
theorem make_pad (n : Nat) (W : World) : (Instr.makeSlice 29 (.int .i64 (1 + ((119 : Int) - n) % 64 + 8)) (.int .i64 (1 + ((119 : Int) - n) % 64 + 8))).run Tryd.prog W = .ok (.slice (some ⟨W.heap.size, 0, none⟩) (zerosOf n + 9) (zerosOf n + 9)) (W.alloc (.cells (List.replicate (zerosOf n + 9) (v8 0)).toArray 5)) := by
  have hz : zerosOf n < 64 := Nat.mod_lt _ (by decide)
  rw [pad_size, run_make_row' _ _ _ _ Tryd.underlying29 infoU8 rfl .i64 .i64 (zerosOf n + 9) (by omega) (by omega), madeCells_one]
  rfl

set_option maxRecDepth 100000 in
set_option maxHeartbeats 400000 in
theorem padding_any (n : Nat) (hn : n ≤ 1099511627776) (w : World) :
    Calls Tryd.prog 65 #[.int .i64 n] w fun e w' => e = .returned (.slice (some ⟨w.heap.size, 0, none⟩) (zerosOf n + 9) (zerosOf n + 9)) ∧ Hid (Row w' w.heap.size 5 ((padding n).map v8)) ∧ Below w.heap.size w w' := by
  have hmk := make_pad n
  have hz : zerosOf n < 64 := Nat.mod_lt _ (by decide)
  generalize hzz : zerosOf n = z at *
  have HZZ := Lib.hid hzz
  clear hzz
  go_enter Tryd.func65, Tryd.ntmps65
  go_wp2_with fail
  go_loopw [25] (fun i wr => ∃ k : Nat, k ≤ 8 ∧ i = .int .i64 k ∧ Row wr w.heap.size 5 (padZ n k) ∧ Below w.heap.size w wr) (fun i _ => 8 - (intOf i).toNat)
  case atStart =>
    refine ⟨0, Nat.zero_le _, rfl, ?_, (Below.refl _ _).alloc (Nat.le_refl _) _⟩
    have h := padZ_zero n
    rw [HZZ.out] at h
    exact Row.at_ _ _ _ (by rw [← h, ← List.setIfInBounds_toArray, List.toArray_replicate]; rfl) rfl
  case round =>
    obtain ⟨k, hk, rfl, hrow, hold⟩ := hrel
    have hlen := padZ_length n k hk
    rw [HZZ.out] at hlen
    by_cases hlt : k < 8
    · obtain ⟨u, hu⟩ : ∃ u, wr.cell? ⟨w.heap.size, z + 8 - k, none⟩ = some u := ⟨_, hrow.cell (List.getElem?_eq_getElem (by omega))⟩
      have hf : wr.frozen? ⟨w.heap.size, z + 8 - k, none⟩ = false := hrow.frozen _
      have hlt' : (k : Int) < 8 := by omega
      clear hlen hmk
      go_wp2_with fail
      go_roundw
      case rel =>
        have hv : Value.int .u8 ((n : Int) * 8 / 2 ^ (8 * k) % 256) = v8 (byteAt (n * 8) (7 - k)) := by
          have e := byte_fold (n * 8) k hlt
          rw [IntKind.wrap_u8, Int.natCast_mul] at e
          exact congrArg (Value.int .u8) e
        rw [hv]
        refine ⟨k + 1, by omega, by go_num, ?_, hold.setCell (Nat.le_refl _) _⟩
        rw [← padZ_step n k hlt, HZZ.out]
        exact hrow.set _ _
      case measure => simp [intOf] <;> omega
    · have hk8 : k = 8 := by omega
      have hr : Row wr w.heap.size 5 ((padding n).map v8) := by rw [← padZ_all, ← hk8]; exact hrow
      have HR := Lib.hid hr
      clear hr hrow hk8 hlen hmk
      go_wp2_with fail
      go_ret
      exact ⟨rfl, HR, hold⟩
end Go.Proofs.YtjejldfpehaacaaDoor
