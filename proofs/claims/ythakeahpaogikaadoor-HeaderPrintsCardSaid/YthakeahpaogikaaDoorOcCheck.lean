/-
  octal.Check and the reference's.
-/
import Derived.Test.YthakeahpaogikaaDoorOcNum
namespace Go.Proofs.YthakeahpaogikaaDoor
open Go.RowKit Sh Oc

theorem ck_step {bs : List UInt8} {j : Nat} (h : j < bs.length) : ck bs (j + 1) = ck bs j + (if 148 ≤ j ∧ j < 156 then 0 else bs[j].toNat) := by
  rw [ck]
  simp [List.getD, h]
theorem ckR_step {bs : List UInt8} {j : Nat} (h : j < bs.length) : ckR bs (j + 1) = ckR bs j + (if 148 ≤ j ∧ j < 156 then 32 else bs[j].toNat) := by
  rw [ckR]
  simp [List.getD, h]

set_option maxRecDepth 100000 in
set_option maxHeartbeats 1000000 in
theorem check_any (w : World) (A : Option Addr) (n c : Nat) (bs : List UInt8) (S : BytesAt w A n c bs) (hn : n ≤ maxLen) :
    Calls Tryd.prog 18 #[.slice A n c] w fun e w' => e = .returned (.int .i64 (checkF bs)) ∧ w' = w := by
  have HS := Lib.hid S
  have hlen := S.len
  clear S
  unfold maxLen at hn
  by_cases h5 : n = 512
  · have HF := Lib.hid (show checkF bs = 256 + (ck bs 512 : Int) from if_pos (by omega))
    subst h5
    go_enter Tryd.func18, Tryd.ntmps18
    go_wp2_with fail
    go_loopw [3, 8] (fun v i wr => ∃ j : Nat, j ≤ 512 ∧ i = .int .i64 j ∧ v = .int .i64 (256 + (ck bs j : Int)) ∧ wr = w) (fun _ i _ => 512 - (intOf i).toNat)
    case atStart => exact ⟨0, Nat.zero_le _, rfl, rfl, rfl⟩
    case round =>
      obtain ⟨j, hj, rfl, rfl, rfl⟩ := hrel
      by_cases hlt : j < 512
      · obtain ⟨b, o, rfl, _, _⟩ := HS.out.at_ (by omega)
        have hc := HS.out.cellAt (j := j) (by omega)
        have hb := n8_nonneg (bs[j])
        have hb' := n8_lt (bs[j])
        have HX := Lib.hid (ck_step (bs := bs) (j := j) (by omega))
        have HD := Lib.hid (show n8 bs[j] = (bs[j].toNat : Int) from rfl)
        have hk := ck_le bs j
        generalize n8 bs[j] = d at *
        generalize ck bs j = v at *
        have hlt' : (j : Int) < 512 := by omega
        by_cases h1 : j < 148
        · have h1' : (j : Int) < 148 := by omega
          go_wp2_with fail
          go_roundw
          case rel =>
            refine ⟨j + 1, by omega, by go_num, ?_, trivial⟩
            rw [HX.out, if_neg (by omega), HD.out]
            exact congrArg (Value.int IntKind.i64) (by omega)
          case measure => simp [intOf] <;> omega
        · have h1' : ¬ (j : Int) < 148 := by omega
          by_cases h2 : 156 ≤ j
          · have h2' : (156 : Int) ≤ (j : Int) := by omega
            go_wp2_with fail
            go_roundw
            case rel =>
              refine ⟨j + 1, by omega, by go_num, ?_, trivial⟩
              rw [HX.out, if_neg (by omega), HD.out]
              exact congrArg (Value.int IntKind.i64) (by omega)
            case measure => simp [intOf] <;> omega
          · have h2' : ¬ (156 : Int) ≤ (j : Int) := by omega
            go_wp2_with fail
            go_roundw
            case rel =>
              refine ⟨j + 1, by omega, by go_num, ?_, trivial⟩
              rw [HX.out, if_pos (by omega)]
              rfl
            case measure => simp [intOf] <;> omega
      · obtain rfl : j = 512 := by omega
        go_wp2_with fail
        go_ret
        exact ⟨by rw [HF.out]; rfl, rfl⟩
  · rw [show checkF bs = -1 from if_neg (by omega)]
    have h5' : ¬ (n : Int) = 512 := by omega
    go_enter Tryd.func18, Tryd.ntmps18
    go_wp2_with fail
    go_ret
    exact ⟨rfl, rfl⟩

set_option maxRecDepth 100000 in
set_option maxHeartbeats 1000000 in
theorem rcheck_any (w : World) (A : Option Addr) (n c : Nat) (bs : List UInt8) (S : BytesAt w A n c bs) (hn : n ≤ maxLen) :
    Calls Tryd.prog 22 #[.slice A n c] w fun e w' => e = .returned (.int .i64 (checkF bs)) ∧ w' = w := by
  have HS := Lib.hid S
  have hlen := S.len
  clear S
  unfold maxLen at hn
  by_cases h5 : n = 512
  · have HF := Lib.hid (show checkF bs = (ckR bs 512 : Int) from by rw [checkF, if_pos (by omega), ckR_eq]; omega)
    subst h5
    go_enter Tryd.func22, Tryd.ntmps22
    go_wp2_with fail
    go_loopw [3, 4] (fun v i wr => ∃ j : Nat, j ≤ 512 ∧ i = .int .i64 j ∧ v = .int .i64 (ckR bs j : Nat) ∧ wr = w) (fun _ i _ => 512 - (intOf i).toNat)
    case atStart => exact ⟨0, Nat.zero_le _, rfl, rfl, rfl⟩
    case round =>
      obtain ⟨j, hj, rfl, rfl, rfl⟩ := hrel
      by_cases hlt : j < 512
      · obtain ⟨b, o, rfl, _, _⟩ := HS.out.at_ (by omega)
        have hc := HS.out.cellAt (j := j) (by omega)
        have hb := n8_nonneg (bs[j])
        have hb' := n8_lt (bs[j])
        have HX := Lib.hid (ckR_step (bs := bs) (j := j) (by omega))
        have HD := Lib.hid (show n8 bs[j] = (bs[j].toNat : Int) from rfl)
        have hk := ckR_le bs j
        generalize n8 bs[j] = d at *
        generalize ckR bs j = v at *
        have hlt' : (j : Int) < 512 := by omega
        by_cases h1 : 148 ≤ j
        · have h1' : 148 ≤ (j : Int) := by omega
          by_cases h2 : j < 156
          · have h2' : (j : Int) < 156 := by omega
            go_wp2_with fail
            go_roundw
            case rel =>
              refine ⟨j + 1, by omega, by go_num, ?_, trivial⟩
              rw [HX.out, if_pos (by omega)]
              exact congrArg (Value.int IntKind.i64) (by omega)
            case measure => simp [intOf] <;> omega
          · have h2' : ¬ (j : Int) < 156 := by omega
            go_wp2_with fail
            go_roundw
            case rel =>
              refine ⟨j + 1, by omega, by go_num, ?_, trivial⟩
              rw [HX.out, if_neg (by omega), HD.out]
              exact congrArg (Value.int IntKind.i64) (by omega)
            case measure => simp [intOf] <;> omega
        · have h1' : ¬ 148 ≤ (j : Int) := by omega
          go_wp2_with fail
          go_roundw
          case rel =>
            refine ⟨j + 1, by omega, by go_num, ?_, trivial⟩
            rw [HX.out, if_neg (by omega), HD.out]
            exact congrArg (Value.int IntKind.i64) (by omega)
          case measure => simp [intOf] <;> omega
      · obtain rfl : j = 512 := by omega
        go_wp2_with fail
        go_ret
        exact ⟨by rw [HF.out]; rfl, rfl⟩
  · rw [show checkF bs = -1 from if_neg (by omega)]
    have h5' : ¬ (n : Int) = 512 := by omega
    go_enter Tryd.func22, Tryd.ntmps22
    go_wp2_with fail
    go_ret
    exact ⟨rfl, rfl⟩
end Go.Proofs.YthakeahpaogikaaDoor
