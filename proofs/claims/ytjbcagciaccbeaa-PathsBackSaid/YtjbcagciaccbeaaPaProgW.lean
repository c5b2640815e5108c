/-
  The program's own calls of package paths: the small ones, that only read.
-/
import Derived.Test.YtjbcagciaccbeaaPaLib
import Derived.IntWalk
namespace Go.Proofs.Ytjbcagciaccbeaa
open Go.RowKit Sh Pth
set_option maxRecDepth 100000
set_option maxHeartbeats 1000000
theorem pa_lastw (w : World) (s : List UInt8) (hl : s.length ≤ 1099511627776) : Calls Try.prog 34 #[.string (sb s)] w fun e w' => e = .returned (.string (sb (lastF s))) ∧ w' = w := by
  obtain ⟨hc, hle⟩ := name_cut s s.length rfl
  obtain ⟨k, hk⟩ : ∃ k, s.length - (lastF s).length = k := ⟨_, rfl⟩
  have H := lastidx_sb s hl w
  rw [show (s.length : Int) - ((lastF s).length : Int) - 1 = (k : Int) - 1 from by omega] at H
  rw [hk] at hc
  have e2 : (sb s).extract k s.length = sb (lastF s) := by
    rw [sb_cut, List.take_length, hc]
  have hsz := sb_size s
  have HC := Lib.hid H
  have h0 : (0 : Int) ≤ (k : Int) := by omega
  have h1 : (k : Int) ≤ (s.length : Int) := by omega
  have h2 : (k : Int) - 1 + 1 = (k : Int) := by omega
  have h3 : ((k : Int)).toNat = k := by omega
  clear H hc hk hle
  generalize sb (lastF s) = S1 at *
  generalize sb s = S at *
  go_enter Try.func34, Try.ntmps34
  go_wp2_with fail
  refine HC.out.mono ?_
  rintro e w1 ⟨rfl, rfl⟩
  go_wp2_with fail
  go_ret
  exact ⟨rfl, rfl⟩
theorem pa_parentw (w : World) (s : List UInt8) (hl : s.length ≤ 1099511627776) : Calls Try.prog 13 #[.string (sb s)] w fun e w' => e = .returned (.string (sb (parentF s))) ∧ w' = w := by
  obtain ⟨hc, hle⟩ := name_cut s s.length rfl
  have hp := parent_cut s
  obtain ⟨k, hk⟩ : ∃ k, s.length - (lastF s).length = k := ⟨_, rfl⟩
  have H := lastidx_sb s hl w
  rw [show (s.length : Int) - ((lastF s).length : Int) - 1 = (k : Int) - 1 from by omega] at H
  rw [hk] at hp
  have e2 : (sb s).extract 0 (k - 1) = sb (parentF s) := by
    rw [sb_cut, List.drop_zero, hp]
  have hsz := sb_size s
  have HC := Lib.hid H
  obtain ⟨m, hm⟩ : ∃ m : Nat, k - 1 = m := ⟨_, rfl⟩
  rw [hm] at e2
  have h1 : (m : Int) ≤ (s.length : Int) := by omega
  have h2 : max ((k : Int) - 1) 0 = (m : Int) := by omega
  have h4 : (0 : Int) ≤ (m : Int) := by omega
  have h3 : ((m : Int)).toNat = m := by omega
  clear H hc hk hle hm hp
  generalize sb (parentF s) = S1 at *
  generalize sb s = S at *
  generalize (k : Int) - 1 = z at *
  go_enter Try.func13, Try.ntmps13
  go_wp2_with fail
  refine HC.out.mono ?_
  rintro e w1 ⟨rfl, rfl⟩
  go_wp2_with fail
  go_ret
  exact ⟨rfl, rfl⟩
theorem pa_joinw (w : World) (p n : List UInt8) (hp : p.length ≤ 1099511627776) (hn : n.length ≤ 1099511627776) : Calls Try.prog 36 #[.string (sb p), .string (sb n)] w fun e w' => e = .returned (.string (sb (belowF p n))) ∧ w' = w := by
  unfold belowF
  by_cases h : p = []
  · subst h
    rw [if_pos rfl, show sb [] = ⟨#[]⟩ from rfl]
    generalize sb n = S at *
    go_enter Try.func36, Try.ntmps36
    go_wp2_with fail
    go_ret
    exact ⟨rfl, rfl⟩
  · rw [if_neg h]
    have hb : ((sb p).toList == ([] : List UInt8)) = false := by
      rw [show ([] : List UInt8) = (sb []).toList from (sb_list []).symm, sb_beq]
      exact decide_eq_false h
    have e1 : sb p ++ ⟨#[47]⟩ = sb (p ++ [47]) := sb_app p [47]
    have e2 : sb (p ++ [47]) ++ sb n = sb (p ++ 47 :: n) := by
      rw [sb_app]
      simp
    have s1 : ¬ 9223372036854775807 < (sb p).size + (⟨#[47]⟩ : ByteArray).size := by
      rw [sb_size, show (⟨#[47]⟩ : ByteArray).size = 1 from rfl]
      omega
    have s2 : ¬ 9223372036854775807 < (sb (p ++ [47])).size + (sb n).size := by
      rw [sb_size, sb_size, List.length_append]
      simp
      omega
    have hE : (sb p).isEmpty = false := by
      match p, h with
      | x :: X, _ => rfl
    clear h hp hn
    generalize sb (p ++ 47 :: n) = R at *
    generalize sb (p ++ [47]) = Q at *
    generalize sb n = S at *
    generalize sb p = P at *
    go_enter Try.func36, Try.ntmps36
    go_wp2_with fail
    go_ret
    exact ⟨rfl, rfl⟩
theorem pa_isNamew (w : World) (p : List UInt8) : Calls Try.prog 35 #[.string (sb p)] w fun e w' => e = .returned (.bool (nameOk p)) ∧ w' = w := by
  by_cases h0 : p = []
  · subst h0
    rw [show nameOk [] = false from rfl, show sb [] = ⟨#[]⟩ from rfl]
    go_enter Try.func35, Try.ntmps35
    go_wp2_with fail
    go_ret
    exact ⟨rfl, rfl⟩
  by_cases h1 : p = [46]
  · subst h1
    rw [show nameOk [46] = false from rfl, show sb [46] = ⟨#[46]⟩ from rfl]
    go_enter Try.func35, Try.ntmps35
    go_wp2_with fail
    go_ret
    exact ⟨rfl, rfl⟩
  by_cases h2 : p = [46, 46]
  · subst h2
    rw [show nameOk [46, 46] = false from rfl, show sb [46, 46] = ⟨#[46, 46]⟩ from rfl]
    go_enter Try.func35, Try.ntmps35
    go_wp2_with fail
    go_ret
    exact ⟨rfl, rfl⟩
  have hr : nameOk p = true := by
    unfold nameOk
    rw [decide_eq_true h0, decide_eq_true h1, decide_eq_true h2]
    rfl
  rw [hr]
  have f0 : ((sb p).toList == ([] : List UInt8)) = false := by
    rw [show ([] : List UInt8) = (sb []).toList from (sb_list []).symm, sb_beq]
    exact decide_eq_false h0
  have g0 : ¬ (sb p).toList = [] := by rw [sb_list]; exact h0
  have g1 : ¬ (sb p).toList = [46] := by rw [sb_list]; exact h1
  have g2 : ¬ (sb p).toList = [46, 46] := by rw [sb_list]; exact h2
  have hE : (sb p).isEmpty = false := by
    match p, h0 with
    | x :: X, _ => rfl
  clear h0 h1 h2 hr
  generalize sb p = P at *
  have HB := Lib.hid (show (!P.toList == [46] && !P.toList == [46, 46]) = true from by simp [g1, g2])
  go_enter Try.func35, Try.ntmps35
  go_wp2_with fail
  go_ret
  exact ⟨congrArg (fun b => Ending.returned (Value.bool b)) HB.out, rfl⟩
theorem pa_rankw (w : World) (c : UInt8) : Calls Try.prog 30 #[.int .u8 (n8 c)] w fun e w' => e = .returned (.int .i64 (rkF c)) ∧ w' = w := by
  unfold rkF
  by_cases h : c = 47
  · subst h
    rw [if_pos rfl, show n8 47 = 47 from rfl]
    go_enter Try.func30, Try.ntmps30
    go_wp2_with fail
    go_ret
    exact ⟨rfl, rfl⟩
  · rw [if_neg h, show (c.toNat : Int) = n8 c from rfl]
    have hn : ¬ n8 c = 47 := fun e => h (n8_is (x := c) (c := 47) e)
    have hq : (((⟨#[47]⟩ : ByteArray)[0]'(by decide)).toNat : Int) = 47 := rfl
    have hm : (n8 c == 47) = false := beq_eq_false_iff_ne.2 hn
    have hb : 0 ≤ n8 c ∧ n8 c < 256 := by
      have := c.toNat_lt
      unfold n8
      omega
    obtain ⟨b1, b2⟩ := hb
    generalize n8 c = z at *
    go_enter Try.func30, Try.ntmps30
    go_wp2_with fail
    go_ret
    exact ⟨by first | rfl | go_num, rfl⟩
end Go.Proofs.Ytjbcagciaccbeaa
