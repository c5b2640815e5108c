/-
  Layer 11, plain: texts with commas between; how long what is printed is.
-/
import Derived.Test.YtpakfjfkibphjaaGreatDoorJsOkW
namespace Go.Proofs.YtpakfjfkibphjaaGreatDoor
open Go Sh
namespace Js
open Jt
/-- Texts with commas between. -/
def joinC : List (List UInt8) → List UInt8
  | [] => []
  | [x] => x
  | x :: y :: r => x ++ 44 :: joinC (y :: r)
theorem joinC_snoc : ∀ (T : List (List UInt8)) (x : List UInt8), joinC (T ++ [x]) = if T = [] then x else joinC T ++ 44 :: x
  | [], x => rfl
  | [a], x => rfl
  | a :: b :: r, x => by
    have ih := joinC_snoc (b :: r) x
    rw [if_neg (List.cons_ne_nil _ _)] at ih ⊢
    show a ++ 44 :: joinC ((b :: r) ++ [x]) = (a ++ 44 :: joinC (b :: r)) ++ 44 :: x
    rw [ih, List.append_assoc]
    rfl
/-- Parts have texts, and all of them is these with commas between. -/
theorem parts_texts {d : Nat} {o : Bool} {ks : List (List UInt8)} {P : List (List V)} (h : Parts d o ks P) : ∃ T : List (List UInt8), T.length = P.length ∧ Rows d o ks P.flatten (joinC T) ∧
    ∀ j (hj : j < P.length) (hj2 : j < T.length), ∃ v l t, P[j] = v :: l ∧ One d o v l t ∧ T[j] = item o v t := by
  induction h with
  | nil => exact ⟨[], rfl, .nil _ _, fun j hj => absurd hj (Nat.not_lt_zero _)⟩
  | @cons v l t ks P h r ih =>
    obtain ⟨T, t1, t2, t3⟩ := ih
    obtain ⟨ks0, q1, q2, q3⟩ := h.kids
    refine ⟨item o v t :: T, by rw [List.length_cons, List.length_cons, t1], ?_, fun j hj hj2 => ?_⟩
    · rw [List.flatten_cons]
      match ks, T, t1, t2 with
      | [], T, t1, t2 =>
        obtain ⟨e1, e2⟩ := rows_none t2 rfl
        have hP : P = [] := List.eq_nil_of_length_eq_zero r.len
        subst hP
        have hT : T = [] := List.eq_nil_of_length_eq_zero t1
        subst hT
        rw [List.flatten_nil, List.append_nil]
        exact h.rows
      | k :: ks, [], t1, t2 =>
        have := r.len
        rw [← t1] at this
        cases this
      | k :: ks, y :: T, t1, t2 => exact .more h.own h.deep q1 q2 q3 t2
    · cases j with
      | zero => exact ⟨v, l, t, rfl, h, rfl⟩
      | succ j => exact t3 j (by rw [List.length_cons] at hj; omega) (by rw [List.length_cons] at hj2; omega)
theorem joinC_le : ∀ (T : List (List UInt8)) (j : Nat) (hj : j < T.length), T[j].length ≤ (joinC T).length
  | [], j, hj => absurd hj (Nat.not_lt_zero _)
  | [x], j, hj => by
    have : j = 0 := by simp at hj; exact hj
    subst this
    exact Nat.le_refl _
  | x :: y :: r, j, hj => by
    have e : joinC (x :: y :: r) = x ++ 44 :: joinC (y :: r) := rfl
    rw [e, List.length_append, List.length_cons]
    cases j with
    | zero =>
      rw [List.getElem_cons_zero]
      omega
    | succ j =>
      have := joinC_le (y :: r) j (by rw [List.length_cons] at hj; omega)
      rw [List.getElem_cons_succ]
      omega
theorem joinC_take (T : List (List UInt8)) (k : Nat) (h : k < T.length) : joinC (T.take (k + 1)) = if k = 0 then T[k] else joinC (T.take k) ++ 44 :: T[k] := by
  rw [List.take_succ_eq_append_getElem h, joinC_snoc]
  by_cases h0 : k = 0
  · subst h0
    rw [if_pos List.take_zero, if_pos rfl]
  · rw [if_neg h0, if_neg]
    intro e
    have := congrArg List.length e
    rw [List.length_take, List.length_nil] at this
    omega
theorem joinC_mono (T : List (List UInt8)) : ∀ k, k ≤ T.length → (joinC (T.take k)).length ≤ (joinC T).length := by
  have step : ∀ k, k < T.length → (joinC (T.take k)).length ≤ (joinC (T.take (k + 1))).length := fun k hk => by
    rw [joinC_take T k hk]
    split
    next h0 => subst h0; exact Nat.zero_le _
    · rw [List.length_append]; omega
  have all : ∀ m k, k + m = T.length → (joinC (T.take k)).length ≤ (joinC T).length := by
    intro m
    induction m with
    | zero =>
      intro k hk
      rw [List.take_of_length_le (by omega)]
      exact Nat.le_refl _
    | succ m ih =>
      intro k hk
      exact Nat.le_trans (step k (by omega)) (ih (k + 1) (by omega))
  intro k hk
  exact all (T.length - k) k (by omega)
end Js
end Go.Proofs.YtpakfjfkibphjaaGreatDoor
