/-
  Layer 10: numbers' texts, as plain functions; no program is named here.
-/
import Derived.Test.YtpakfjfkibphjaaGreatDoorJtFns
namespace Go.Proofs.YtpakfjfkibphjaaGreatDoor
open Go
namespace Jt

def isD (a : UInt8) : Bool := decide (48 ≤ a.toNat) && decide (a.toNat ≤ 57)
theorem isD_is {a : UInt8} : isD a = true ↔ 48 ≤ a.toNat ∧ a.toNat ≤ 57 := by
  unfold isD
  rw [Bool.and_eq_true, decide_eq_true_eq, decide_eq_true_eq]
/-- How many digits there are. -/
def digF : List UInt8 → Nat
  | [] => 0
  | a :: r => if isD a = true then digF r + 1 else 0
theorem dig_no {a : UInt8} {r : List UInt8} (h : isD a = false) : digF (a :: r) = 0 := by rw [digF, h]; rfl
theorem dig_yes {a : UInt8} {r : List UInt8} (h : isD a = true) : digF (a :: r) = digF r + 1 := by rw [digF, if_pos h]
theorem dig_le : ∀ s : List UInt8, digF s ≤ s.length
  | [] => Nat.le_refl _
  | a :: r => by
    have := dig_le r
    rw [digF, List.length_cons]
    split <;> omega
theorem dig_take {u : List UInt8} (hu : digF u = 0) : ∀ (s : List UInt8) (j : Nat), j ≤ digF s → digF (s.take j ++ u) = j
  | [], j, h => by
    obtain rfl : j = 0 := Nat.le_zero.1 h
    exact hu
  | a :: r, 0, _ => hu
  | a :: r, j + 1, h => by
    rw [digF] at h
    split at h
    · rename_i ha
      rw [List.take_succ_cons, List.cons_append, dig_yes ha, dig_take hu r j (by omega)]
    · omega
theorem dig_all : ∀ s : List UInt8, digF s = s.length ↔ s.all isD = true
  | [] => by simp [digF]
  | a :: r => by
    have := dig_le r
    have ih := dig_all r
    rw [digF, List.length_cons, List.all_cons, Bool.and_eq_true, ← ih]
    split
    · rename_i h
      exact ⟨fun e => ⟨h, by omega⟩, fun e => by omega⟩
    · rename_i h
      exact ⟨fun e => by omega, fun e => absurd e.1 h⟩
def fracF : List UInt8 → Nat
  | [] => 0
  | a :: u => if a = 46 ∧ digF u ≠ 0 then 1 + digF u else 0
def signF : List UInt8 → Nat
  | [] => 0
  | a :: _ => if a = 43 ∨ a = 45 then 1 else 0
def expF : List UInt8 → Nat
  | [] => 0
  | a :: u => if (a = 101 ∨ a = 69) ∧ digF (u.drop (signF u)) ≠ 0 then 1 + signF u + digF (u.drop (signF u)) else 0
def wholeF (s : List UInt8) : Nat := if digF s = 0 then 0 else if s.head? = some 48 then 1 else digF s
def posF (s : List UInt8) : Nat :=
  if wholeF s = 0 then 0 else wholeF s + fracF (s.drop (wholeF s)) + expF (s.drop (wholeF s + fracF (s.drop (wholeF s))))
def minF : List UInt8 → Nat
  | [] => 0
  | a :: _ => if a = 45 then 1 else 0
/-- How many bytes the longest number's text has. -/
def numF (s : List UInt8) : Nat := if posF (s.drop (minF s)) = 0 then 0 else minF s + posF (s.drop (minF s))

theorem whole_le (s : List UInt8) : wholeF s ≤ digF s := by
  unfold wholeF
  split
  · omega
  split
  · omega
  · omega
theorem whole_take {s u : List UInt8} (hu : digF u = 0) (h : wholeF s ≠ 0) : wholeF (s.take (wholeF s) ++ u) = wholeF s := by
  have hd := whole_le s
  have e := dig_take hu s (wholeF s) hd
  have hh : (s.take (wholeF s) ++ u).head? = s.head? := by
    match s, h with
    | [], h => exact absurd rfl h
    | a :: r, h =>
      obtain ⟨k, hk⟩ : ∃ k, wholeF (a :: r) = k + 1 := ⟨wholeF (a :: r) - 1, by omega⟩
      rw [hk]
      rfl
  have e2 : wholeF (s.take (wholeF s) ++ u) = if wholeF s = 0 then 0 else if s.head? = some 48 then 1 else wholeF s := by
    rw [wholeF, e, hh]
  rw [e2, if_neg h]
  by_cases h8 : s.head? = some 48
  · rw [if_pos h8]
    unfold wholeF at h ⊢
    rw [if_pos h8] at h ⊢
    split
    · rename_i h0
      rw [if_pos h0] at h
      exact absurd rfl h
    · rfl
  · rw [if_neg h8]
theorem frac_take {s u : List UInt8} (hu : digF u = 0) (h : fracF s ≠ 0) : fracF (s.take (fracF s) ++ u) = fracF s := by
  match s with
  | [] => exact absurd rfl h
  | a :: r =>
    rw [fracF] at h ⊢
    split at h
    · rename_i ha
      rw [if_pos ha, Nat.add_comm, List.take_succ_cons, List.cons_append, fracF, dig_take hu r _ (Nat.le_refl _), if_pos ha, Nat.add_comm]
    · exact absurd rfl h
theorem sign_cut (r : List UInt8) (h : digF (r.drop (signF r)) ≠ 0) (u : List UInt8) : signF (r.take (signF r) ++ ((r.drop (signF r)).take (digF (r.drop (signF r))) ++ u)) = signF r := by
  match r with
  | [] => exact absurd rfl h
  | a :: t =>
    rw [signF] at h ⊢
    split
    · rename_i ha
      rw [List.take_succ_cons, List.cons_append, signF, if_pos ha]
    · rename_i ha
      rw [if_neg ha, List.drop_zero] at h
      obtain ⟨k, hk⟩ : ∃ k, digF (a :: t) = k + 1 := ⟨digF (a :: t) - 1, by omega⟩
      rw [List.drop_zero, hk, List.take_zero, List.nil_append, List.take_succ_cons, List.cons_append, signF, if_neg ha]
theorem sign_len (r : List UInt8) : signF r ≤ r.length := by
  match r with
  | [] => exact Nat.le_refl _
  | a :: t =>
    rw [signF, List.length_cons]
    split <;> omega
theorem exp_take {s u : List UInt8} (hu : digF u = 0) (h : expF s ≠ 0) : expF (s.take (expF s) ++ u) = expF s := by
  match s with
  | [] => exact absurd rfl h
  | a :: r =>
    rw [expF] at h ⊢
    split at h
    · rename_i ha
      rw [if_pos ha]
      have e1 : (a :: r).take (1 + signF r + digF (r.drop (signF r))) ++ u = a :: (r.take (signF r) ++ ((r.drop (signF r)).take (digF (r.drop (signF r))) ++ u)) := by
        rw [show 1 + signF r + digF (r.drop (signF r)) = (signF r + digF (r.drop (signF r))) + 1 by omega, List.take_succ_cons, List.take_add, List.cons_append, List.append_assoc]
      have e2 : (r.take (signF r) ++ ((r.drop (signF r)).take (digF (r.drop (signF r))) ++ u)).drop (signF r) = (r.drop (signF r)).take (digF (r.drop (signF r))) ++ u :=
        List.drop_left' (by rw [List.length_take]; have := sign_len r; omega)
      rw [e1, expF, sign_cut r ha.2 u, e2, dig_take hu _ _ (Nat.le_refl _), if_pos ha]
    · exact absurd rfl h
theorem exp_head {s : List UInt8} (h : expF s ≠ 0) (u : List UInt8) : digF (s.take (expF s) ++ u) = 0 ∧ fracF (s.take (expF s) ++ u) = 0 := by
  match s with
  | [] => exact absurd rfl h
  | a :: r =>
    obtain ⟨k, hk⟩ : ∃ k, expF (a :: r) = k + 1 := ⟨expF (a :: r) - 1, by omega⟩
    rw [hk, List.take_succ_cons, List.cons_append]
    rw [expF] at h
    split at h
    · rename_i ha
      have hd : isD a = false := by rcases ha.1 with rfl | rfl <;> decide
      have h46 : a ≠ 46 := by rcases ha.1 with rfl | rfl <;> decide
      exact ⟨dig_no hd, by rw [fracF, if_neg (fun e => h46 e.1)]⟩
    · exact absurd rfl h
theorem frac_head {s : List UInt8} (h : fracF s ≠ 0) (u : List UInt8) : digF (s.take (fracF s) ++ u) = 0 := by
  match s with
  | [] => exact absurd rfl h
  | a :: r =>
    obtain ⟨k, hk⟩ : ∃ k, fracF (a :: r) = k + 1 := ⟨fracF (a :: r) - 1, by omega⟩
    rw [hk, List.take_succ_cons, List.cons_append]
    rw [fracF] at h
    split at h
    · rename_i ha
      exact dig_no (by rw [ha.1]; decide)
    · exact absurd rfl h
/-- What cannot belong to a number. -/
structure Stops (u : List UInt8) : Prop where
  dig : digF u = 0
  frac : fracF u = 0
  exp : expF u = 0
theorem stops_nil : Stops [] := ⟨rfl, rfl, rfl⟩
theorem stops_comma (r : List UInt8) : Stops (44 :: r) := ⟨rfl, by rw [fracF, if_neg (by simp)], by rw [expF, if_neg (by simp)]⟩
theorem exp_len (s : List UInt8) : expF s ≤ s.length := by
  match s with
  | [] => exact Nat.le_refl _
  | a :: r =>
    have h1 := dig_le (r.drop (signF r))
    rw [List.length_drop] at h1
    have h2 := sign_len r
    rw [expF, List.length_cons]
    split <;> omega
theorem frac_len (s : List UInt8) : fracF s ≤ s.length := by
  match s with
  | [] => exact Nat.le_refl _
  | a :: r =>
    have h1 := dig_le r
    rw [fracF, List.length_cons]
    split <;> omega
theorem pos_take {s u : List UInt8} (hu : Stops u) (h : posF s ≠ 0) : posF (s.take (posF s) ++ u) = posF s := by
  unfold posF at h
  by_cases hw : wholeF s = 0
  · rw [if_pos hw] at h
    exact absurd rfl h
  clear h
  have hp : posF s = wholeF s + fracF (s.drop (wholeF s)) + expF (s.drop (wholeF s + fracF (s.drop (wholeF s)))) := by
    rw [posF, if_neg hw]
  have hwl := Nat.le_trans (whole_le s) (dig_le s)
  obtain ⟨w, ew⟩ : ∃ w, w = wholeF s := ⟨_, rfl⟩
  obtain ⟨f, ef⟩ : ∃ f, f = fracF (s.drop w) := ⟨_, rfl⟩
  obtain ⟨e, ee⟩ : ∃ e, e = expF (s.drop (w + f)) := ⟨_, rfl⟩
  rw [← ew, ← ef, ← ee] at hp
  have hfl := frac_len (s.drop w)
  rw [List.length_drop, ← ef] at hfl
  have hel := exp_len (s.drop (w + f))
  rw [List.length_drop, ← ee] at hel
  have hY : expF ((s.drop (w + f)).take e ++ u) = e ∧ digF ((s.drop (w + f)).take e ++ u) = 0 ∧ fracF ((s.drop (w + f)).take e ++ u) = 0 := by
    by_cases h0 : e = 0
    · rw [h0, List.take_zero, List.nil_append]
      exact ⟨hu.exp, hu.dig, hu.frac⟩
    · rw [ee] at h0 ⊢
      exact ⟨exp_take hu.dig h0, exp_head h0 u⟩
  obtain ⟨Y, hYe⟩ : ∃ Y, Y = (s.drop (w + f)).take e ++ u := ⟨_, rfl⟩
  rw [← hYe] at hY
  have hX : fracF ((s.drop w).take f ++ Y) = f ∧ digF ((s.drop w).take f ++ Y) = 0 := by
    by_cases h0 : f = 0
    · rw [h0, List.take_zero, List.nil_append]
      exact ⟨hY.2.2, hY.2.1⟩
    · rw [ef] at h0 ⊢
      exact ⟨frac_take hY.2.1 h0, frac_head h0 Y⟩
  have hs : s.take (posF s) ++ u = s.take w ++ ((s.drop w).take f ++ Y) := by
    rw [hp, hYe, Nat.add_assoc, List.take_add, List.take_add, List.drop_drop, List.append_assoc, List.append_assoc]
  have hW : wholeF (s.take w ++ ((s.drop w).take f ++ Y)) = w := by
    have := whole_take (s := s) (u := (s.drop w).take f ++ Y) hX.2 hw
    rw [← ew] at this
    exact this
  have d1 : (s.take w ++ ((s.drop w).take f ++ Y)).drop w = (s.drop w).take f ++ Y := List.drop_left' (by rw [List.length_take]; omega)
  have d2 : (s.take w ++ ((s.drop w).take f ++ Y)).drop (w + f) = Y := by
    rw [← List.drop_drop, d1]
    exact List.drop_left' (by rw [List.length_take, List.length_drop]; omega)
  rw [hs, posF, hW, if_neg (by omega), d1, hX.1, d2, hY.1, hp]
theorem pos_head {s : List UInt8} (h : posF s ≠ 0) : ∃ a r, s = a :: r ∧ isD a = true := by
  match s with
  | [] => exact absurd rfl h
  | a :: r =>
    refine ⟨a, r, rfl, ?_⟩
    cases ha : isD a with
    | true => rfl
    | false =>
      have : posF (a :: r) = 0 := by
        have e : wholeF (a :: r) = 0 := by rw [wholeF, if_pos (dig_no ha)]
        rw [posF, if_pos e]
      exact absurd this h
/-- What stands behind a number's text does not matter, if it cannot belong to it. -/
theorem num_take {s u : List UInt8} (hu : Stops u) (h : numF s ≠ 0) : numF (s.take (numF s) ++ u) = numF s := by
  unfold numF at h
  by_cases hp : posF (s.drop (minF s)) = 0
  · rw [if_pos hp] at h
    exact absurd rfl h
  clear h
  have hn : numF s = minF s + posF (s.drop (minF s)) := by rw [numF, if_neg hp]
  have ht := pos_take hu hp
  match s with
  | [] => exact absurd rfl hp
  | a :: r =>
    by_cases ha : a = 45
    · have e : minF (a :: r) = 1 := by rw [minF, if_pos ha]
      rw [e, List.drop_succ_cons, List.drop_zero] at hp hn ht
      rw [hn, Nat.add_comm, List.take_succ_cons, List.cons_append, numF, minF, if_pos ha, List.drop_succ_cons, List.drop_zero, ht, if_neg hp, Nat.add_comm]
    · have e : minF (a :: r) = 0 := by rw [minF, if_neg ha]
      rw [e, List.drop_zero, Nat.zero_add] at hn
      rw [e, List.drop_zero] at hp ht
      obtain ⟨k, hk⟩ : ∃ k, posF (a :: r) = k + 1 := ⟨posF (a :: r) - 1, by omega⟩
      have em : minF ((a :: r).take (posF (a :: r)) ++ u) = 0 := by rw [hk, List.take_succ_cons, List.cons_append, minF, if_neg ha]
      rw [hn, numF, em, List.drop_zero, ht, if_neg hp, Nat.zero_add]
theorem num_le (s : List UInt8) : numF s ≤ s.length := by
  by_cases h : numF s = 0
  · omega
  · have hm : minF s ≤ s.length := by
      match s with
      | [] => exact Nat.le_refl _
      | a :: r => rw [minF, List.length_cons]; split <;> omega
    unfold numF
    split
    · omega
    unfold posF
    split
    · omega
    have h1 := Nat.le_trans (whole_le (s.drop (minF s))) (dig_le _)
    have h2 := frac_len ((s.drop (minF s)).drop (wholeF (s.drop (minF s))))
    have h3 := exp_len ((s.drop (minF s)).drop (wholeF (s.drop (minF s)) + fracF ((s.drop (minF s)).drop (wholeF (s.drop (minF s))))))
    rw [List.length_drop] at h1
    rw [List.length_drop, List.length_drop] at h2 h3
    omega
end Jt
end Go.Proofs.YtpakfjfkibphjaaGreatDoor
