/-
  The reference's part, marked, below, Under, join, walked.
-/
import Derived.Test.YtjbcagciaccbeaaPaCon
namespace Go.Proofs.Ytjbcagciaccbeaa
open Go.RowKit Sh Pth
set_option maxRecDepth 100000
theorem Pth.sb_isEmpty (s : List UInt8) : (sb s).toList.isEmpty = decide (s = []) := by
  rw [sb_list]
  cases s <;> rfl
theorem Pth.beq_dec (a b : List UInt8) : (a == b) = decide (a = b) := by
  by_cases h : a = b
  · rw [decide_eq_true h]
    exact beq_iff_eq.2 h
  · rw [decide_eq_false h]
    exact beq_eq_false_iff_ne.2 h
theorem pa_rmarked (w : World) (s : List UInt8) : Calls Try.prog 42 #[.string (sb s)] w fun e w' => e = .returned (.bool (marked s)) ∧ w' = w := by
  have hsz := sb_size s
  have hm := marked_iff s
  by_cases h : 4 ≤ s.length
  · have hz : (4 : Int) ≤ (s.length : Int) := by omega
    have hc : (sb s).extract 0 4 = sb (s.take 4) := sb_cut s 0 4
    have hl : (sb (s.take 4)).toList = s.take 4 := sb_list _
    have HM := Lib.hid hm
    clear hm
    generalize sb (s.take 4) = T at *
    go_enter Try.func42, Try.ntmps42
    go_wp2_with fail
    go_ret
    refine ⟨?_, rfl⟩
    rw [HM.out]
    show Ending.returned (.bool (s.take 4 == [46, 119, 104, 46])) = _
    congr 2
    rw [show (decide (4 ≤ s.length ∧ s.take 4 = whK)) = decide (s.take 4 = whK) from decide_eq_decide.2 ⟨fun x => x.2, fun x => ⟨h, x⟩⟩]
    exact beq_dec _ _
  · have hz : ¬ (4 : Int) ≤ (s.length : Int) := by omega
    have HM := Lib.hid hm
    clear hm
    go_enter Try.func42, Try.ntmps42
    go_wp2_with fail
    go_ret
    refine ⟨?_, rfl⟩
    rw [HM.out, decide_eq_false fun x => h x.1]
    rfl
theorem pa_rbelow (w : World) (p q : List UInt8) (hp : p.length ≤ 1099511627776) (hq : q.length ≤ 1099511627776) : Calls Try.prog 38 #[.string (sb p), .string (sb q)] w fun e w' => e = .returned (.string (sb (belowF p q))) ∧ w' = w := by
  unfold belowF
  have he := sb_isEmpty p
  by_cases h : p = []
  · rw [decide_eq_true h] at he
    rw [if_pos h]
    clear h
    go_enter Try.func38, Try.ntmps38
    go_wp2_with fail
    go_ret
    exact ⟨rfl, rfl⟩
  · rw [decide_eq_false h] at he
    rw [if_neg h]
    have hc : sb p ++ (⟨#[47]⟩ : ByteArray) ++ sb q = sb (p ++ 47 :: q) := by
      rw [show (⟨#[47]⟩ : ByteArray) = sb [47] from rfl, sb_app, sb_app, List.append_assoc]
      rfl
    have h1 : ¬ 9223372036854775807 < (sb p).size + 1 := by rw [sb_size]; omega
    have h2 : ¬ 9223372036854775807 < (sb p).size + 1 + (sb q).size := by rw [sb_size, sb_size]; omega
    have HC := Lib.hid hc
    clear hc
    go_enter Try.func38, Try.ntmps38
    go_wp2_with fail
    go_ret
    exact ⟨congrArg (fun x => Ending.returned (Value.string x)) HC.out, rfl⟩
theorem pa_rpart (w : World) (s : List UInt8) (hl : s.length ≤ 1048576) : Calls Try.prog 37 #[.string (sb s)] w fun e w' => e = .returned (.bool (partOk s)) ∧ w' = w := by
  have hsz := sb_size s
  have HZ := Lib.hid (fun (j : Nat) (h : j < s.length) => zero_at s h)
  have HI := Lib.hid (fun (j : Nat) (h : j < s.length) => sb_index s j h)
  have HP : Hid (partOk s = (decide (s ≠ []) && decide (s ≠ [46]) && decide (s ≠ [46, 46]) && !(s.drop 0).contains 0)) := Lib.hid rfl
  obtain ⟨n, hn⟩ : ∃ n, n = s.length := ⟨_, rfl⟩
  rw [← hn] at hsz hl
  have HN := Lib.hid hn
  clear hn
  obtain ⟨P, hP⟩ : ∃ P, P = partOk s := ⟨_, rfl⟩
  rw [← hP] at HP ⊢
  clear hP
  go_enter Try.func37, Try.ntmps37
  go_wp2_with fail
  go_loopg [3] n (fun g v3 wx => ∃ j : Nat, v3 = .int .i64 (j : Int) ∧ j + g = n ∧ wx = w ∧ Hid (P = (decide (s ≠ []) && decide (s ≠ [46]) && decide (s ≠ [46, 46]) && !(s.drop j).contains 0)))
  case atStart => exact ⟨0, rfl, by omega, rfl, HP⟩
  case round =>
    clear HP
    obtain ⟨j, rfl, hjg, rfl, HQ⟩ := hrel
    cases gk with
    | zero =>
      have hjn : j = n := by omega
      subst hjn
      have hge : ¬ (j : Int) < (j : Int) := by omega
      have hd : s.drop j = [] := List.drop_of_length_le (by rw [HN.out]; exact Nat.le_refl _)
      rw [hd] at HQ
      clear hd
      by_cases e0 : s = []
      · have h1 : (sb s).toList = [] := by rw [sb_list]; exact e0
        have HF : Hid (P = false) := Lib.hid (by rw [HQ.out, e0]; rfl)
        clear HQ e0
        go_wp2_with fail
        go_ret
        exact ⟨by rw [HF.out]; rfl, rfl⟩
      have h1 : ¬ (sb s).toList = [] := by rw [sb_list]; exact e0
      by_cases e1 : s = [46]
      · have h2 : (sb s).toList = [46] := by rw [sb_list]; exact e1
        have HF : Hid (P = false) := Lib.hid (by rw [HQ.out, e1]; rfl)
        clear HQ e0 e1
        go_wp2_with fail
        go_ret
        exact ⟨by rw [HF.out]; rfl, rfl⟩
      have h2 : ¬ (sb s).toList = [46] := by rw [sb_list]; exact e1
      have HF : Hid (P = (!(sb s).toList.isEmpty && !(sb s).toList == [46] && !(sb s).toList == [46, 46])) := Lib.hid (by
        rw [HQ.out, sb_isEmpty, sb_list, beq_dec, beq_dec]
        simp)
      clear HQ e0 e1
      go_wp2_with fail
      go_ret
      exact ⟨by rw [HF.out]; rfl, rfl⟩
    | succ g =>
      have hj : j < s.length := by have := HN.out; omega
      have hjn : (j : Int) < (n : Int) := by omega
      have hi := HI.out j hj
      have HZ1 := Lib.hid (HZ.out j hj)
      have hb := n8_eq s[j] 0
      generalize s[j] = c at *
      by_cases h0 : c = 0
      · have HF : Hid (P = false) := Lib.hid (by rw [HQ.out, HZ1.out, decide_eq_true h0]; simp)
        rw [decide_eq_true h0] at hb
        have hb2 : n8 c = 0 := by rw [h0]; rfl
        clear HQ HZ1 h0 hb
        go_wp2_with fail
        go_ret
        exact ⟨by rw [HF.out]; rfl, rfl⟩
      · have HF : Hid (P = (decide (s ≠ []) && decide (s ≠ [46]) && decide (s ≠ [46, 46]) && !(s.drop (j + 1)).contains 0)) := Lib.hid (by rw [HQ.out, HZ1.out, decide_eq_false h0, Bool.false_or])
        rw [decide_eq_false h0] at hb
        have hb2 : ¬ n8 c = 0 := fun e => h0 (n8_is (c := 0) (e.trans rfl))
        clear HQ HZ1 h0 hb
        go_wp2_with fail
        go_roundg g
        case measure => omega
        case rel => exact ⟨j + 1, by go_num, by omega, rfl, HF⟩
end Go.Proofs.Ytjbcagciaccbeaa
