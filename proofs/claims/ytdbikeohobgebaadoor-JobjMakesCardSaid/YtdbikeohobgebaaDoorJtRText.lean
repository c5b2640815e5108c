/-
  The reference's Text.
-/
import Derived.Test.YtdbikeohobgebaaDoorJtRQuote
namespace Go.Proofs.YtdbikeohobgebaaDoor
open Go.RowKit Sh
namespace Jt
def tens : List UInt8 := [48, 49, 50, 51, 52, 53, 54, 55, 56, 57]
theorem tens_cut {d : Nat} (h : d < 10) : (⟨#[48, 49, 50, 51, 52, 53, 54, 55, 56, 57]⟩ : ByteArray).extract d (d + 1) = sb (natT d) := by
  have e := sb_cut tens d (d + 1)
  rw [nat_low h]
  have e2 : (tens.take (d + 1)).drop d = [UInt8.ofNat (48 + d)] := by
    have : ∀ d : Fin 10, (tens.take (d.1 + 1)).drop d.1 = [UInt8.ofNat (48 + d.1)] := by decide
    exact this ⟨d, h⟩
  rw [e2] at e
  exact e
theorem nat_len : ∀ (k n : Nat), n < 10 ^ k → (natT n).length ≤ k + 1
  | 0, n, h => by
    rw [nat_low (by omega)]
    exact Nat.le_refl _
  | k + 1, n, h => by
    by_cases h10 : n < 10
    · rw [nat_low h10]
      simp
    · rw [nat_high h10, List.length_append, List.length_singleton]
      have := nat_len k (n / 10) (by rw [Nat.pow_succ] at h; omega)
      omega
theorem nat_step {n : Nat} (h : ¬ n < 10) : natT n = natT (n / 10) ++ natT (n % 10) := by
  rw [nat_high h, nat_low (n := n % 10) (by omega)]
end Jt
open Jt
set_option maxRecDepth 100000 in
set_option maxHeartbeats 4000000 in
/-- A number that is not below nought. -/
theorem jt_text_nat (n : Nat) (hn : n ≤ 9223372036854775808) : ∀ (w : World) (z : Int), z = (n : Int) → z ≤ 9223372036854775807 → Calls Tryd.prog 30 #[.int .i64 z] w fun e w' => e = .returned (.string (sb (natT n))) ∧ Below w.heap.size w w' := by
  induction n using Nat.strongRecOn with
  | ind n ih =>
    intro w z hz hz1
    by_cases h10 : n < 10
    · have hcA := tens_cut h10
      obtain ⟨m, hm⟩ : ∃ m, m = n + 1 := ⟨_, rfl⟩
      rw [← hm] at hcA
      have hmi : (n : Int) + 1 = (m : Int) := by omega
      have i1 : (n : Int) < 10 := by omega
      have i2 : (m : Int) ≤ 10 := by omega
      have i3 : (n : Int) ≤ (m : Int) := by omega
      subst hz
      clear hm ih h10 hn hz1
      generalize sb (natT n) = X at *
      go_enter Tryd.func30, Tryd.ntmps30
      go_wp2_with fail
      go_ret
      exact ⟨rfl, Below.refl _ _⟩
    · have H1 := Lib.hid (fun W => ih (n / 10) (by omega) (by omega) W (z / 10) (by omega) (by omega))
      have H2 := Lib.hid (fun W => ih (n % 10) (by omega) (by omega) W (z % 10) (by omega) (by omega))
      have hst := nat_step h10
      have happ := sb_app (natT (n / 10)) (natT (n % 10))
      rw [← hst] at happ
      have hns : ¬ 9223372036854775807 < (sb (natT (n / 10))).size + (sb (natT (n % 10))).size := app_ok (by
        have h1 := nat_len 19 (n / 10) (by omega)
        have h2 := nat_len 19 (n % 10) (by omega)
        omega)
      have i1 : ¬ z < 10 := by omega
      have i2 : 0 ≤ z := by omega
      clear ih h10 hst hz hn
      generalize sb (natT n) = X at *
      generalize sb (natT (n / 10)) = Y at *
      generalize sb (natT (n % 10)) = V at *
      go_enter Tryd.func30, Tryd.ntmps30
      go_wp2_with fail
      refine (H1.out _).mono ?_
      rintro e w2 ⟨rfl, B2⟩
      have HB2 := Lib.hid B2
      clear B2
      go_wp2_with fail
      refine (H2.out _).mono ?_
      rintro e w3 ⟨rfl, B3⟩
      have HB3 := Lib.hid (HB2.out.trans (B3.mono HB2.out.size))
      clear B3
      go_wp2_with fail
      go_ret
      exact ⟨rfl, HB3.out⟩
set_option maxRecDepth 100000 in
set_option maxHeartbeats 4000000 in
/-- A number below nought. -/
theorem jt_text_neg (n : Nat) (hn : n ≤ 9223372036854775808) (h0 : 1 ≤ n) : ∀ (w : World) (z : Int), z = -(n : Int) → Calls Tryd.prog 30 #[.int .i64 z] w fun e w' => e = .returned (.string (sb (45 :: natT n))) ∧ Below w.heap.size w w' := by
  induction n using Nat.strongRecOn with
  | ind n ih =>
    intro w z hz
    by_cases h10 : n < 10
    · have H1 := Lib.hid (fun W => jt_text_nat n hn W (-z) (by omega) (by omega))
      have happ : (⟨#[45]⟩ : ByteArray) ++ sb (natT n) = sb (45 :: natT n) := sb_app [45] (natT n)
      have hns : ¬ 9223372036854775807 < (⟨#[45]⟩ : ByteArray).size + (sb (natT n)).size := app_ok (a := [45]) (b := natT n) (by
        have h1 := nat_len 19 n (by omega)
        simp only [List.length_cons, List.length_nil]
        omega)
      have i1 : z < 0 := by omega
      have i2 : -10 < z := by omega
      clear ih h10 hn hz h0
      generalize sb (natT n) = Y at *
      generalize sb (45 :: natT n) = X at *
      go_enter Tryd.func30, Tryd.ntmps30
      go_wp2_with fail
      refine (H1.out _).mono ?_
      rintro e w2 ⟨rfl, B2⟩
      have HB2 := Lib.hid B2
      clear B2
      go_wp2_with fail
      go_ret
      exact ⟨rfl, HB2.out⟩
    · obtain ⟨q, hq0⟩ : ∃ q : Int, q = -((n / 10 : Nat) : Int) := ⟨_, rfl⟩
      obtain ⟨m, hm0⟩ : ∃ m : Int, m = -((n % 10 : Nat) : Int) := ⟨_, rfl⟩
      have hq : Int.tdiv z 10 = q := by rw [hq0]; subst hz; rw [Int.neg_tdiv]; rfl
      have hr : Int.tmod z 10 = m := by rw [hm0]; subst hz; rw [Int.neg_tmod]; rfl
      have H1 := Lib.hid (fun W => ih (n / 10) (by omega) (by omega) (by omega) W q hq0)
      have H2 := Lib.hid (fun W => jt_text_nat (n % 10) (by omega) W (-m) (by omega) (by omega))
      have iq1 : -1000000000000000000 ≤ q := by omega
      have iq2 : q ≤ 0 := by omega
      have im1 : -10 < m := by omega
      have im2 : m ≤ 0 := by omega
      have hwq : wrap64 q = q := by unfold wrap64; omega
      have hwm : wrap64 m = m := by unfold wrap64; omega
      have hwm2 : wrap64 (-m) = -m := by unfold wrap64; omega
      clear hq0 hm0
      have hst : 45 :: natT n = (45 :: natT (n / 10)) ++ natT (n % 10) := by rw [nat_step h10]; rfl
      have happ := sb_app (45 :: natT (n / 10)) (natT (n % 10))
      rw [← hst] at happ
      have hns : ¬ 9223372036854775807 < (sb (45 :: natT (n / 10))).size + (sb (natT (n % 10))).size := app_ok (by
        have h1 := nat_len 19 (n / 10) (by omega)
        have h2 := nat_len 19 (n % 10) (by omega)
        simp only [List.length_cons]
        omega)
      have i1 : z < 0 := by omega
      have i2 : ¬ -10 < z := by omega
      have i3 : -9223372036854775808 ≤ z := by omega
      clear ih h10 hst hn hz h0
      generalize sb (45 :: natT n) = X at *
      generalize sb (45 :: natT (n / 10)) = Y at *
      generalize sb (natT (n % 10)) = V at *
      go_enter Tryd.func30, Tryd.ntmps30
      go_wp2_with fail
      refine (H1.out _).mono ?_
      rintro e w2 ⟨rfl, B2⟩
      have HB2 := Lib.hid B2
      clear B2
      go_wp2_with fail
      refine (H2.out _).mono ?_
      rintro e w3 ⟨rfl, B3⟩
      have HB3 := Lib.hid (HB2.out.trans (B3.mono HB2.out.size))
      clear B3
      go_wp2_with fail
      go_ret
      exact ⟨rfl, HB3.out⟩
theorem jt_text (w : World) (n : Int) (h1 : -9223372036854775808 ≤ n) (h2 : n ≤ 9223372036854775807) : Calls Tryd.prog 30 #[.int .i64 n] w fun e w' => e = .returned (.string (sb (textF n))) ∧ Below w.heap.size w w' := by
  unfold textF
  by_cases h : n < 0
  · rw [if_pos h]
    exact jt_text_neg n.natAbs (by omega) (by omega) w n (by omega)
  · rw [if_neg h]
    exact jt_text_nat n.natAbs (by omega) w n (by omega) h2
end Go.Proofs.YtdbikeohobgebaaDoor
