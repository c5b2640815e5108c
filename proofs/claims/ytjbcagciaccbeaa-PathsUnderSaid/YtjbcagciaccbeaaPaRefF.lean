/-
  Layer 15: parts, joins and questions by the place that a loop has come to; no program is named here.
-/
import Derived.Test.YtjbcagciaccbeaaPaMark
namespace Go.Proofs.Ytjbcagciaccbeaa
open Go
namespace Pth

/-- The parts of a text with one more byte. -/
theorem parts_snoc (t : List UInt8) (c : UInt8) : parts (t ++ [c]) = if c = 47 then parts t ++ [[]] else (parts t).dropLast ++ [lastF t ++ [c]] := by
  by_cases hc : c = 47
  · subst hc
    rw [if_pos rfl, parts_two t []]
    rfl
  · rw [if_neg hc]
    have key : ∀ t : List UInt8, ∀ I l, parts t = I ++ [l] → parts (t ++ [c]) = I ++ [l ++ [c]] := by
      intro t
      induction t with
      | nil =>
        intro I l h
        have h1 : I = [] ∧ l = [] := by
          match I, h with
          | [], h => exact ⟨rfl, (List.cons.inj h).1.symm⟩
          | _ :: I, h =>
            have := congrArg List.length h
            simp [parts] at this
        rw [h1.1, h1.2]
        exact parts_one [c] fun h => hc (List.mem_singleton.1 h).symm
      | cons a t ih =>
        intro I l h
        by_cases ha : a = 47
        · subst ha
          rw [parts_slash] at h
          rw [List.cons_append, parts_slash]
          match I, h with
          | [], h =>
            exact absurd (List.cons.inj h).2 (parts_ne t)
          | i :: I, h =>
            obtain ⟨h1, h2⟩ := List.cons.inj h
            rw [ih I l h2, ← h1]
            rfl
        · match hp : parts t with
          | [] => exact absurd hp (parts_ne t)
          | q :: Q =>
            rw [parts_other ha hp] at h
            match I, h with
            | [], h =>
              obtain ⟨h1, h2⟩ := List.cons.inj h
              have := ih [] q (by rw [hp, h2]; rfl)
              rw [List.cons_append, parts_other ha this, ← h1]
              rfl
            | i :: I, h =>
              obtain ⟨h1, h2⟩ := List.cons.inj h
              have h3 : Q = I ++ [l] := h2
              have := ih (q :: I) l (by rw [hp, h3]; rfl)
              rw [List.cons_append, parts_other ha this, ← h1]
              rfl
    exact key t _ _ (parts_split t)
theorem parts_len (s : List UInt8) : (parts s).length ≤ s.length + 1 := by
  induction s with
  | nil => exact Nat.le_refl _
  | cons c r ih =>
    by_cases hc : c = 47
    · rw [hc, parts_slash, List.length_cons, List.length_cons]
      omega
    · match hp : parts r with
      | [] => exact absurd hp (parts_ne r)
      | q :: Q =>
        rw [hp] at ih
        rw [parts_other hc hp]
        rw [List.length_cons] at ih ⊢
        rw [List.length_cons]
        omega
theorem part_len (s : List UInt8) : ∀ p ∈ parts s, p.length ≤ s.length := by
  induction s with
  | nil =>
    intro p h
    rw [List.mem_singleton.1 h]
    exact Nat.le_refl _
  | cons c r ih =>
    intro p h
    rw [List.length_cons]
    by_cases hc : c = 47
    · rw [hc, parts_slash] at h
      rcases List.mem_cons.1 h with rfl | h
      · exact Nat.zero_le _
      · exact Nat.le_succ_of_le (ih p h)
    · match hp : parts r with
      | [] => exact absurd hp (parts_ne r)
      | q :: Q =>
        rw [parts_other hc hp] at h
        rcases List.mem_cons.1 h with rfl | h
        · rw [List.length_cons]
          exact Nat.succ_le_succ (ih q (by rw [hp]; exact List.mem_cons_self))
        · exact Nat.le_succ_of_le (ih p (by rw [hp]; exact List.mem_cons_of_mem _ h))
/-- One part more. -/
theorem join_snoc (P : List (List UInt8)) (p : List UInt8) : join (P ++ [p]) = if P = [] then p else join P ++ 47 :: p := by
  by_cases h : P = []
  · rw [if_pos h, h]
    rfl
  · rw [if_neg h, join_app h (by exact fun h => by cases h)]
    rfl
theorem join_take {P : List (List UInt8)} {i : Nat} {p : List UInt8} (h : P[i]? = some p) : join (P.take (i + 1)) = (if i = 0 then [] else join (P.take i) ++ [47]) ++ p := by
  have hi := (List.getElem?_eq_some_iff.1 h).1
  rw [List.take_add_one, h, Option.toList_some, join_snoc]
  by_cases h0 : i = 0
  · subst h0
    rw [if_pos rfl, List.take_zero, if_pos rfl]
    rfl
  · rw [if_neg h0, if_neg (fun e => by
      have := congrArg List.length e
      rw [List.length_take, List.length_nil] at this
      omega), List.append_assoc]
    rfl
theorem join_len {P : List (List UInt8)} {m : Nat} (h : ∀ p ∈ P, p.length ≤ m) : (join P).length ≤ P.length * (m + 1) := by
  induction P with
  | nil => exact Nat.zero_le _
  | cons p P ih =>
    have h1 := h p List.mem_cons_self
    have h2 := ih fun q hq => h q (List.mem_cons_of_mem _ hq)
    rw [List.length_cons, Nat.succ_mul]
    by_cases hP : P = []
    · subst hP
      show p.length ≤ _
      omega
    · rw [join_cons p hP, List.length_append, List.length_cons]
      omega
theorem keep_take {P : List (List UInt8)} {i : Nat} {p : List UInt8} (h : P[i]? = some p) : keepF (P.take (i + 1)) = keepF (P.take i) ++ if p ≠ [] ∧ p ≠ [46] then [p] else [] := by
  rw [List.take_add_one, h, Option.toList_some]
  unfold keepF
  rw [List.filter_append, List.filter_cons]
  by_cases hp : p ≠ [] ∧ p ≠ [46]
  · rw [if_pos (decide_eq_true hp), if_pos hp]
    rfl
  · rw [if_neg (by rw [decide_eq_false hp]; decide), if_neg hp]
    rfl
theorem drop_at {P : List (List UInt8)} {i : Nat} {p : List UInt8} (h : P[i]? = some p) : P.drop i = p :: P.drop (i + 1) := by
  obtain ⟨hi, e⟩ := List.getElem?_eq_some_iff.1 h
  rw [List.drop_eq_getElem_cons hi, e]
/-- May the part at a place be there? -/
def goodAt (n i : Nat) (p : List UInt8) : Bool := partOk p && decide (p.length ≤ if i + 1 = n ∧ marked p = true then 255 else 251)
theorem ok_drop {P : List (List UInt8)} {i : Nat} {p : List UInt8} (h : P[i]? = some p) : partsOk (P.drop i) = (goodAt P.length i p && partsOk (P.drop (i + 1))) := by
  have hi := (List.getElem?_eq_some_iff.1 h).1
  rw [drop_at h]
  unfold goodAt
  by_cases hl : i + 1 = P.length
  · rw [List.drop_of_length_le (by omega), partsOk, partsOk, Bool.and_true]
    simp only [hl, true_and]
  · match hd : P.drop (i + 1) with
    | [] =>
      have := congrArg List.length hd
      rw [List.length_drop] at this
      simp at this
      omega
    | q :: Q =>
      rw [partsOk]
      simp only [hl, false_and, if_false]
/-- Two rows of parts, as far as they are the same. -/
theorem cmp_at {X Y : List (List UInt8)} {i : Nat} {x y : List UInt8} (hx : X[i]? = some x) (hy : Y[i]? = some y) : cmpP (X.drop i) (Y.drop i) = if x = y then cmpP (X.drop (i + 1)) (Y.drop (i + 1)) else if ltB x y = true then -1 else 1 := by
  rw [drop_at hx, drop_at hy, cmpP_cons]
theorem cmp_end {X Y : List (List UInt8)} {i : Nat} (h : ¬ (i < X.length ∧ i < Y.length)) (hi : i ≤ X.length) (hj : i ≤ Y.length) : cmpP (X.drop i) (Y.drop i) = if X.length < Y.length then -1 else if Y.length < X.length then 1 else 0 := by
  by_cases h1 : i = X.length
  · rw [List.drop_of_length_le (by omega)]
    by_cases h2 : i = Y.length
    · rw [List.drop_of_length_le (by omega), if_neg (by omega), if_neg (by omega)]
      rfl
    · match hd : Y.drop i with
      | [] =>
        have := congrArg List.length hd
        rw [List.length_drop] at this
        simp at this
        omega
      | q :: Q =>
        rw [cmpP_lo, if_pos (by omega)]
  · have h2 : i = Y.length := by omega
    rw [List.drop_of_length_le (l := Y) (by omega)]
    match hd : X.drop i with
    | [] =>
      have := congrArg List.length hd
      rw [List.length_drop] at this
      simp at this
      omega
    | q :: Q =>
      rw [cmpP_hi, if_neg (by omega), if_pos (by omega)]
theorem lt_three {x y : List UInt8} (h1 : ltB x y = false) (h2 : ltB y x = false) : x = y := by
  by_cases e : x = y
  · exact e
  · exact absurd (ltB_total x y e h1) (by rw [h2]; decide)
theorem under_cut {p q : List UInt8} (hp : p ≠ []) : underF p q = decide (p.length < q.length ∧ q.take (p.length + 1) = p ++ [47]) := by
  refine Bool.eq_iff_iff.2 ?_
  rw [under_iff hp, decide_eq_true_iff]
  constructor
  · rintro ⟨r, rfl⟩
    refine ⟨by rw [List.length_append, List.length_cons]; omega, ?_⟩
    rw [show p ++ 47 :: r = (p ++ [47]) ++ r from by rw [List.append_assoc]; rfl]
    exact List.take_left' (by rw [List.length_append]; rfl)
  · rintro ⟨_, h⟩
    refine ⟨q.drop (p.length + 1), ?_⟩
    have := List.take_append_drop (p.length + 1) q
    rw [h, List.append_assoc] at this
    exact this.symm
theorem marked_iff (p : List UInt8) : marked p = decide (4 ≤ p.length ∧ p.take 4 = whK) := by
  refine Bool.eq_iff_iff.2 ?_
  unfold marked
  rw [List.isPrefixOf_iff_prefix, decide_eq_true_iff]
  constructor
  · rintro ⟨r, rfl⟩
    exact ⟨by rw [List.length_append]; exact Nat.le_add_right _ _, rfl⟩
  · rintro ⟨_, h⟩
    exact ⟨p.drop 4, by rw [← h, List.take_append_drop]⟩
theorem dir_take (s : List UInt8) : (parts s).dropLast = (parts s).take ((parts s).length - 1) := List.dropLast_eq_take
theorem cut_slash (t : List UInt8) : parts (t ++ [47]) = parts t ++ [[]] := by rw [parts_snoc, if_pos rfl]
theorem set_last {L I : List (List UInt8)} {l x : List UInt8} (h : L = I ++ [l]) : L.set I.length x = I ++ [x] := by
  rw [h, List.set_append_right _ _ (Nat.le_refl _), Nat.sub_self]
  rfl
theorem cut_other {t : List UInt8} {c : UInt8} (hc : c ≠ 47) {m : Nat} (hm : (parts t).length = m + 1) (h : m < (parts t).length) : (parts t).set m ((parts t)[m] ++ [c]) = parts (t ++ [c]) := by
  have e := parts_split t
  have hl : (parts t).dropLast.length = m := by rw [List.length_dropLast, hm]; rfl
  have hg : (parts t)[m] = lastF t := by
    have h1 : (parts t)[m]? = some (lastF t) := by
      rw [e, List.getElem?_append_right (by omega), hl, Nat.sub_self]
      rfl
    rw [List.getElem?_eq_getElem h] at h1
    exact Option.some.inj h1
  rw [parts_snoc, if_neg hc, hg]
  have := set_last (x := lastF t ++ [c]) e
  rw [hl] at this
  exact this
theorem take_snoc (s : List UInt8) {j : Nat} (h : j < s.length) : s.take (j + 1) = s.take j ++ [s[j]] := List.take_succ_eq_append_getElem h
theorem last_at (s : List UInt8) {m : Nat} (hm : (parts s).length = m + 1) (h : m < (parts s).length) : (parts s)[m] = lastF s := by
  have h1 : (parts s)[m]? = some (lastF s) := by
    rw [parts_split s, List.getElem?_append_right (by rw [List.length_dropLast, hm]; exact Nat.le_refl _), List.length_dropLast, hm, Nat.add_sub_cancel, Nat.sub_self]
    rfl
  rw [List.getElem?_eq_getElem h] at h1
  exact Option.some.inj h1
/-- Has it a byte 0 from a place on? -/
theorem zero_at (s : List UInt8) {j : Nat} (h : j < s.length) : (s.drop j).contains 0 = (decide (s[j] = 0) || (s.drop (j + 1)).contains 0) := by
  rw [List.drop_eq_getElem_cons h, List.contains_cons]
  congr 1
  by_cases e : s[j] = 0
  · rw [e]
    rfl
  · rw [decide_eq_false e]
    exact beq_eq_false_iff_ne.2 fun e2 => e e2.symm
end Pth
end Go.Proofs.Ytjbcagciaccbeaa
