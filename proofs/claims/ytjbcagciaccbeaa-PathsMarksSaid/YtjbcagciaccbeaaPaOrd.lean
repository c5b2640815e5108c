/-
  Layer 15: the order of paths, and what is below what; no program is named here.
-/
import Derived.Test.YtjbcagciaccbeaaPaFns
namespace Go.Proofs.Ytjbcagciaccbeaa
open Go
namespace Pth

theorem ltB_irrefl : ∀ s, ltB s s = false
  | [] => rfl
  | a :: r => by rw [ltB, if_pos rfl, ltB_irrefl r]
theorem ltB_total : ∀ s u, s ≠ u → ltB s u = false → ltB u s = true
  | [], [], h, _ => absurd rfl h
  | [], _ :: _, _, h => by cases h
  | _ :: _, [], _, _ => rfl
  | a :: r, b :: s, h, hf => by
    rw [ltB] at hf ⊢
    by_cases e : a = b
    · subst e
      rw [if_pos rfl] at hf ⊢
      exact ltB_total r s (fun e => h (by rw [e])) hf
    · rw [if_neg e] at hf
      rw [if_neg (fun e2 => e e2.symm)]
      have h1 := of_decide_eq_false hf
      have h2 : a.toNat ≠ b.toNat := fun e2 => e (UInt8.toNat_inj.1 e2)
      exact decide_eq_true (by omega)
theorem ltB_trans : ∀ s u v, ltB s u = true → ltB u v = true → ltB s v = true
  | s, [], _, h, _ => by cases s <;> simp [ltB] at h
  | _, b :: s, [], _, h => by simp [ltB] at h
  | [], _ :: _, _ :: _, _, _ => rfl
  | a :: r, b :: s, c :: u, h1, h2 => by
    rw [ltB] at h1 h2 ⊢
    by_cases e : a = b
    · subst e
      rw [if_pos rfl] at h1
      by_cases e2 : a = c
      · subst e2
        rw [if_pos rfl] at h2 ⊢
        exact ltB_trans r s u h1 h2
      · rw [if_neg e2] at h2 ⊢
        exact h2
    · rw [if_neg e] at h1
      by_cases e2 : b = c
      · subst e2
        rw [if_neg e]
        exact h1
      · rw [if_neg e2] at h2
        have h3 := of_decide_eq_true h1
        have h4 := of_decide_eq_true h2
        rw [if_neg (fun e3 => by rw [e3] at h3; omega)]
        exact decide_eq_true (by omega)
theorem ltB_asymm {s u : List UInt8} (h : ltB s u = true) : ltB u s = false := by
  cases e : ltB u s with
  | false => rfl
  | true => exact absurd (ltB_trans _ _ _ h e) (by rw [ltB_irrefl]; decide)
theorem ltB_ne {s u : List UInt8} (h : ltB s u = true) : s ≠ u := by
  intro e
  rw [e, ltB_irrefl] at h
  cases h

theorem cmpP_cons (x y : List UInt8) (X Y : List (List UInt8)) : cmpP (x :: X) (y :: Y) = if x = y then cmpP X Y else if ltB x y = true then -1 else 1 := rfl
theorem cmpP_lo (y : List UInt8) (Y : List (List UInt8)) : cmpP [] (y :: Y) = -1 := rfl
theorem cmpP_hi (y : List UInt8) (Y : List (List UInt8)) : cmpP (y :: Y) [] = 1 := rfl
theorem cmpP_self : ∀ X, cmpP X X = 0
  | [] => rfl
  | x :: X => by rw [cmpP_cons, if_pos rfl, cmpP_self X]
theorem cmpP_eq : ∀ {X Y}, cmpP X Y = 0 → X = Y
  | [], [], _ => rfl
  | [], _ :: _, h => by rw [cmpP_lo] at h; exact absurd h (by decide)
  | _ :: _, [], h => by rw [cmpP_hi] at h; exact absurd h (by decide)
  | x :: X, y :: Y, h => by
    rw [cmpP_cons] at h
    split at h
    next e => rw [e, cmpP_eq h]
    next => split at h <;> exact absurd h (by decide)
theorem cmpP_neg : ∀ X Y, cmpP X Y = - cmpP Y X
  | [], [] => rfl
  | [], _ :: _ => rfl
  | _ :: _, [] => rfl
  | x :: X, y :: Y => by
    rw [cmpP_cons x y, cmpP_cons y x]
    by_cases e : x = y
    · rw [if_pos e, if_pos e.symm, cmpP_neg X Y]
    · rw [if_neg e, if_neg (c := y = x) fun e2 => e e2.symm]
      by_cases h : ltB x y = true
      · rw [if_pos h, if_neg (by rw [ltB_asymm h]; decide)]
      · rw [if_neg h, if_pos (ltB_total x y e (Bool.not_eq_true _ ▸ h))]
        rfl
theorem cmpP_three (X Y : List (List UInt8)) : cmpP X Y = -1 ∨ cmpP X Y = 0 ∨ cmpP X Y = 1 := by
  induction X generalizing Y with
  | nil => cases Y with
    | nil => exact .inr (.inl rfl)
    | cons => exact .inl rfl
  | cons x X ih => cases Y with
    | nil => exact .inr (.inr rfl)
    | cons y Y =>
      rw [cmpP_cons]
      split
      · exact ih Y
      · split
        · exact .inl rfl
        · exact .inr (.inr rfl)
theorem cmpP_trans : ∀ {X Y Z}, cmpP X Y < 0 → cmpP Y Z < 0 → cmpP X Z < 0
  | [], [], [], _, h2 => h2
  | [], _ :: _, [], _, h2 => by rw [cmpP_hi] at h2; exact absurd h2 (by decide)
  | [], _, _ :: _, _, _ => by rw [cmpP_lo]; decide
  | _ :: _, [], _, h1, _ => by rw [cmpP_hi] at h1; exact absurd h1 (by decide)
  | _ :: _, _ :: _, [], _, h2 => by rw [cmpP_hi] at h2; exact absurd h2 (by decide)
  | x :: X, y :: Y, z :: Z, h1, h2 => by
    rw [cmpP_cons] at h1 h2 ⊢
    by_cases e : x = y
    · subst e
      rw [if_pos rfl] at h1
      by_cases e2 : x = z
      · rw [if_pos e2] at h2 ⊢
        exact cmpP_trans h1 h2
      · rw [if_neg e2] at h2 ⊢
        exact h2
    · rw [if_neg e] at h1
      have h3 : ltB x y = true := by
        by_cases h : ltB x y = true
        · exact h
        · rw [if_neg h] at h1
          exact absurd h1 (by decide)
      by_cases e2 : y = z
      · subst e2
        rw [if_neg e, if_pos h3]
        decide
      · rw [if_neg e2] at h2
        have h4 : ltB y z = true := by
          by_cases h : ltB y z = true
          · exact h
          · rw [if_neg h] at h2
            exact absurd h2 (by decide)
        have h5 := ltB_trans _ _ _ h3 h4
        rw [if_neg (ltB_ne h5), if_pos h5]
        decide
theorem cmpP_pre : ∀ (X : List (List UInt8)) {R}, R ≠ [] → cmpP X (X ++ R) = -1
  | [], [], h => absurd rfl h
  | [], _ :: _, _ => rfl
  | x :: X, R, h => by rw [List.cons_append, cmpP_cons, if_pos rfl, cmpP_pre X h]
/-- What is between a row of parts and one that begins with it begins with it. -/
theorem cmpP_mid : ∀ {X Y R : List (List UInt8)}, cmpP X Y < 0 → cmpP Y (X ++ R) < 0 → ∃ R', R' ≠ [] ∧ Y = X ++ R'
  | [], [], _, h, _ => absurd h (by decide)
  | [], y :: Y, _, _, _ => ⟨y :: Y, (fun h => by cases h), rfl⟩
  | _ :: _, [], _, h, _ => by rw [cmpP_hi] at h; exact absurd h (by decide)
  | x :: X, y :: Y, R, h1, h2 => by
    rw [List.cons_append, cmpP_cons] at h2
    rw [cmpP_cons] at h1
    by_cases e : x = y
    · subst e
      rw [if_pos rfl] at h1 h2
      obtain ⟨R', h3, h4⟩ := cmpP_mid h1 h2
      exact ⟨R', h3, by rw [h4, List.cons_append]⟩
    · rw [if_neg e] at h1
      rw [if_neg (c := y = x) fun e2 => e e2.symm] at h2
      have h3 : ltB x y = true := by
        by_cases h : ltB x y = true
        · exact h
        · rw [if_neg h] at h1
          exact absurd h1 (by decide)
      rw [if_neg (by rw [ltB_asymm h3]; decide)] at h2
      exact absurd h2 (by decide)

theorem partsR_is {s : List UInt8} (h : s ≠ []) : partsR s = parts s := if_neg h
theorem parts_inj {s r : List UInt8} (h : parts s = parts r) : s = r := by rw [← join_parts s, h, join_parts]
theorem compare_eq {s r : List UInt8} (h : compareF s r = 0) : s = r := by
  have h1 := cmpP_eq h
  unfold partsR at h1
  split at h1
  next e1 =>
    split at h1
    next e2 => rw [e1, e2]
    next => exact absurd h1.symm (parts_ne r)
  next =>
    split at h1
    next => exact absurd h1 (parts_ne s)
    next => exact parts_inj h1
theorem compare_self (s : List UInt8) : compareF s s = 0 := cmpP_self _
theorem compare_neg (s r : List UInt8) : compareF s r = - compareF r s := cmpP_neg _ _
theorem compare_three (s r : List UInt8) : compareF s r = -1 ∨ compareF s r = 0 ∨ compareF s r = 1 := cmpP_three _ _
theorem compare_trans {s r t : List UInt8} (h1 : compareF s r < 0) (h2 : compareF r t < 0) : compareF s t < 0 := cmpP_trans h1 h2
/-- What is below a text. -/
theorem under_iff {p q : List UInt8} (hp : p ≠ []) : underF p q = true ↔ ∃ r, q = p ++ 47 :: r := by
  unfold underF
  rw [if_neg hp, List.isPrefixOf_iff_prefix]
  constructor
  · rintro ⟨r, h⟩
    exact ⟨r, by rw [← h, List.append_assoc]; rfl⟩
  · rintro ⟨r, h⟩
    exact ⟨r, by rw [h, List.append_assoc]; rfl⟩
theorem join_app {X R : List (List UInt8)} (hX : X ≠ []) (hR : R ≠ []) : join (X ++ R) = join X ++ 47 :: join R := by
  induction X with
  | nil => exact absurd rfl hX
  | cons x X ih =>
    match X with
    | [] =>
      rw [List.cons_append, List.nil_append, join_cons x hR]
      rfl
    | y :: Y =>
      rw [List.cons_append, join_cons x (by exact fun h => by cases h), ih (fun h => by cases h), join_cons x (by exact fun h => by cases h), List.append_assoc]
      rfl
theorem under_parts {p q : List UInt8} (hp : p ≠ []) : underF p q = true ↔ ∃ R, R ≠ [] ∧ parts q = parts p ++ R := by
  rw [under_iff hp]
  constructor
  · rintro ⟨r, rfl⟩
    exact ⟨parts r, parts_ne r, parts_two p r⟩
  · rintro ⟨R, hR, h⟩
    refine ⟨join R, ?_⟩
    rw [← join_parts q, h, join_app (parts_ne p) hR, join_parts]
theorem under_ne {p q : List UInt8} (h : underF p q = true) : q ≠ [] := by
  intro e
  subst e
  unfold underF at h
  split at h
  · exact absurd h (by decide)
  · cases p <;> exact absurd h (by simp)
theorem under_less {p q : List UInt8} (hp : p ≠ []) (h : underF p q = true) : compareF p q = -1 := by
  have hq := under_ne h
  obtain ⟨R, hR, hh⟩ := (under_parts hp).1 h
  unfold compareF
  rw [partsR_is hp, partsR_is hq, hh]
  exact cmpP_pre _ hR
theorem under_mid {x y z : List UInt8} (hx : x ≠ []) (hy : y ≠ []) (h : underF x z = true) (h1 : compareF x y < 0) (h2 : compareF y z < 0) : underF x y = true := by
  have hz := under_ne h
  obtain ⟨R, hR, hh⟩ := (under_parts hx).1 h
  unfold compareF at h1 h2
  rw [partsR_is hx, partsR_is hy] at h1
  rw [partsR_is hy, partsR_is hz, hh] at h2
  obtain ⟨R', h3, h4⟩ := cmpP_mid h1 h2
  exact (under_parts hx).2 ⟨R', h3, h4⟩
theorem under_self (y : List UInt8) (hy : y ≠ []) : underF y y = false := by
  cases h : underF y y with
  | false => rfl
  | true =>
    obtain ⟨r, hr⟩ := (under_iff hy).1 h
    have := congrArg List.length hr
    rw [List.length_append, List.length_cons] at this
    omega
theorem under_root {y : List UInt8} (hy : y ≠ []) : underF [] y = true := by
  unfold underF
  rw [if_pos rfl]
  exact decide_eq_true hy
theorem under_slash {x : List UInt8} (hx : x ≠ []) (y : List UInt8) : underF x (x ++ 47 :: y) = true := (under_iff hx).2 ⟨y, rfl⟩
end Pth
end Go.Proofs.Ytjbcagciaccbeaa
