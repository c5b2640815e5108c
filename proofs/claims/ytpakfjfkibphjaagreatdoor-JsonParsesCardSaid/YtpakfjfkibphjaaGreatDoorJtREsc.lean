/-
  The reference's hex and escape.
-/
import Derived.Test.YtpakfjfkibphjaaGreatDoorJtRBytes
import Derived.Test.YtpakfjfkibphjaaGreatDoorJtEsc
namespace Go.Proofs.YtpakfjfkibphjaaGreatDoor
open Go.RowKit Sh
namespace Jt
/-- What hex tells. -/
def hexZ (s : List UInt8) : Int := match hex4 s with
  | some n => (n : Int)
  | none => -1
theorem take_at (s : List UInt8) (j : Nat) (hj : j < 4) (hs : j < s.length) : (s.take 4).drop j = s[j] :: (s.take 4).drop (j + 1) := by
  rw [at_of (s.take 4) (by rw [List.length_take]; omega), List.getElem_take]
inductive HexIs (c : UInt8) : Prop where
  | num (h0 : 48 ≤ n8 c) (h1 : n8 c ≤ 57) (h : hexv c = some (c.toNat - 48))
  | low (h0 : 97 ≤ n8 c) (h1 : n8 c ≤ 102) (h : hexv c = some (c.toNat - 87))
  | up (h0 : 65 ≤ n8 c) (h1 : n8 c ≤ 70) (h : hexv c = some (c.toNat - 55))
  | no (h0 : ¬ (48 ≤ n8 c ∧ n8 c ≤ 57)) (h1 : ¬ (97 ≤ n8 c ∧ n8 c ≤ 102)) (h2 : ¬ (65 ≤ n8 c ∧ n8 c ≤ 70)) (h : hexv c = none)
theorem hex_is (c : UInt8) : HexIs c := by
  have e : n8 c = (c.toNat : Int) := rfl
  by_cases h1 : 48 ≤ c.toNat ∧ c.toNat ≤ 57
  · exact .num (by omega) (by omega) (by rw [hexv, if_pos h1])
  by_cases h2 : 97 ≤ c.toNat ∧ c.toNat ≤ 102
  · exact .low (by omega) (by omega) (by rw [hexv, if_neg h1, if_pos h2])
  by_cases h3 : 65 ≤ c.toNat ∧ c.toNat ≤ 70
  · exact .up (by omega) (by omega) (by rw [hexv, if_neg h1, if_neg h2, if_pos h3])
  · exact .no (by omega) (by omega) (by omega) (by rw [hexv, if_neg h1, if_neg h2, if_neg h3])
end Jt
open Jt
set_option maxRecDepth 100000 in
set_option maxHeartbeats 4000000 in
theorem jt_rhex (w : World) (s : List UInt8) (hl : s.length ≤ 1000000000) : Calls Tryz.prog 107 #[.string (sb s)] w fun e w' => e = .returned (.int .i64 (hexZ s)) ∧ w' = w := by
  have hsz := sb_size s
  by_cases h4 : s.length < 4
  · have HE := Lib.hid (show hexZ s = -1 from by unfold hexZ; rw [hex4_short h4])
    rw [HE.out]
    have h4i : (s.length : Int) < 4 := by omega
    clear h4 hl
    generalize sb s = S at *
    generalize s.length = ln at *
    go_enter Tryz.func107, Tryz.ntmps107
    go_wp2_with fail
    go_ret
    exact ⟨rfl, rfl⟩
  · obtain ⟨h5, h6⟩ := hex4_take (s := s) (by omega)
    have HE := Lib.hid h5
    have h4i : ¬ (s.length : Int) < 4 := by omega
    have HX := Lib.hid (fun (j : Nat) (hj : j < s.length) W => sb_index s j hj W)
    have HG := Lib.hid (take_at s)
    have HL := Lib.hid (show 4 ≤ s.length from by omega)
    have HT := Lib.hid h6
    clear h4 hl h5 h6
    generalize hS : sb s = S at *
    clear hS
    obtain ⟨ln, hln⟩ : ∃ ln, ln = s.length := ⟨_, rfl⟩
    rw [← hln] at h4i hsz
    have HLN := Lib.hid hln.symm
    have HL : Hid (4 ≤ ln) := Lib.hid (by rw [hln]; exact HL.out)
    clear hln
    go_enter Tryz.func107, Tryz.ntmps107
    go_wp2_with fail
    go_loopg [3, 4] 4 (fun g vn vi wx => ∃ (k acc : Nat) (z : Int), k + g = 4 ∧ vn = .int .i64 z ∧ vi = .int .i64 (k : Int) ∧ 0 ≤ z ∧ z ≤ 65535 ∧ wx = w ∧ Hid (z = (acc : Int) ∧ acc < 16 ^ k) ∧ Hid (hexL 0 (s.take 4) = hexL acc ((s.take 4).drop k)))
    case atStart => exact ⟨0, 0, 0, by omega, rfl, rfl, by omega, by omega, rfl, Lib.hid ⟨rfl, by decide⟩, Lib.hid rfl⟩
    case round =>
      obtain ⟨k, acc, z, hkg, rfl, rfl, hz0, hz1, rfl, HA, HH⟩ := hrel
      cases gk with
      | zero =>
        obtain rfl : k = 4 := by omega
        have HF := Lib.hid (show hexZ s = z from by
          unfold hexZ
          rw [HE.out, HH.out, List.drop_eq_nil_of_le (by rw [HT.out]; exact Nat.le_refl _), hexL, HA.out.1])
        go_wp2_with fail
        go_ret
        exact ⟨by rw [HF.out]; rfl, rfl⟩
      | succ g =>
        have hk : k < s.length := by rw [HLN.out]; have := HL.out; omega
        have hix := HX.out k hk
        have HH2 := HH.out
        rw [HG.out k (by omega) hk] at HH2
        have hk4 : (k : Int) < 4 := by omega
        have hkl : (k : Int) < (ln : Int) := by have := HL.out; omega
        have hzb : z ≤ 4095 := by
          have : (16 : Nat) ^ k ≤ 16 ^ 3 := Nat.pow_le_pow_right (by decide) (by omega)
          have := HA.out
          omega
        have HP := Lib.hid (show (16 : Nat) ^ (k + 1) = 16 ^ k * 16 from Nat.pow_succ ..)
        clear HH
        generalize s[k] = c at *
        rcases hex_is c with ⟨h0, h1, h⟩ | ⟨h0, h1, h⟩ | ⟨h0, h1, h⟩ | ⟨h0, h1, h2, h⟩
        · have HN := Lib.hid (show hexL 0 (s.take 4) = hexL (acc * 16 + (c.toNat - 48)) ((s.take 4).drop (k + 1)) from by rw [HH2, hexL, h]; rfl)
          have HN2 := Lib.hid (show 16 * z + (n8 c - 48) = ((acc * 16 + (c.toNat - 48) : Nat) : Int) ∧ acc * 16 + (c.toNat - 48) < 16 ^ (k + 1) from by
            have := HA.out
            unfold n8 at h0 h1 ⊢
            rw [HP.out]
            omega)
          clear h HH2
          generalize n8 c = d at *
          go_wp2_with fail
          go_roundg g
          case measure => omega
          case rel => exact ⟨k + 1, _, 16 * z + (d - 48), by omega, (by first | rfl | go_num), by go_num, by omega, by omega, rfl, HN2, HN⟩
        · have HN := Lib.hid (show hexL 0 (s.take 4) = hexL (acc * 16 + (c.toNat - 87)) ((s.take 4).drop (k + 1)) from by rw [HH2, hexL, h]; rfl)
          have HN2 := Lib.hid (show 16 * z + (n8 c - 97) + 10 = ((acc * 16 + (c.toNat - 87) : Nat) : Int) ∧ acc * 16 + (c.toNat - 87) < 16 ^ (k + 1) from by
            have := HA.out
            unfold n8 at h0 h1 ⊢
            rw [HP.out]
            omega)
          clear h HH2
          generalize n8 c = d at *
          go_wp2_with fail
          go_roundg g
          case measure => omega
          case rel => exact ⟨k + 1, _, 16 * z + (d - 97) + 10, by omega, (by first | rfl | go_num), by go_num, by omega, by omega, rfl, HN2, HN⟩
        · have HN := Lib.hid (show hexL 0 (s.take 4) = hexL (acc * 16 + (c.toNat - 55)) ((s.take 4).drop (k + 1)) from by rw [HH2, hexL, h]; rfl)
          have HN2 := Lib.hid (show 16 * z + (n8 c - 65) + 10 = ((acc * 16 + (c.toNat - 55) : Nat) : Int) ∧ acc * 16 + (c.toNat - 55) < 16 ^ (k + 1) from by
            have := HA.out
            unfold n8 at h0 h1 ⊢
            rw [HP.out]
            omega)
          clear h HH2
          generalize n8 c = d at *
          go_wp2_with fail
          go_roundg g
          case measure => omega
          case rel => exact ⟨k + 1, _, 16 * z + (d - 65) + 10, by omega, (by first | rfl | go_num), by go_num, by omega, by omega, rfl, HN2, HN⟩
        · have HF := Lib.hid (show hexZ s = -1 from by
            unfold hexZ
            rw [HE.out, HH2, hexL, h]
            rfl)
          clear h HH2
          generalize n8 c = d at *
          go_wp2_with fail
          all_goals go_ret
          all_goals exact ⟨by rw [HF.out]; rfl, rfl⟩
end Go.Proofs.YtpakfjfkibphjaaGreatDoor
