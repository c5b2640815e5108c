/-
  Layer 15 (paths and marks), as plain functions, and what follows of them; no program is named here.
-/
import Derived.Lib.Hide
namespace Go.Proofs.Ytjbcagciaccbeaa
open Go
namespace Pth

/-- What stands between the slashes of a text. -/
def parts : List UInt8 → List (List UInt8)
  | [] => [[]]
  | c :: r => if c = 47 then [] :: parts r else match parts r with
    | [] => [[c]]
    | p :: P => (c :: p) :: P
/-- Parts, with a slash between two. -/
def join : List (List UInt8) → List UInt8
  | [] => []
  | [p] => p
  | p :: q :: P => p ++ 47 :: join (q :: P)
def whK : List UInt8 := [46, 119, 104, 46]
def opqK : List UInt8 := [46, 119, 104, 46, 46, 119, 104, 46, 46, 111, 112, 113]
/-- May it be a part? -/
def partOk (p : List UInt8) : Bool := decide (p ≠ []) && decide (p ≠ [46]) && decide (p ≠ [46, 46]) && !p.contains 0
def marked (p : List UInt8) : Bool := whK.isPrefixOf p
/-- Is a row of parts a path's? -/
def partsOk : List (List UInt8) → Bool
  | [] => true
  | [p] => partOk p && decide (p.length ≤ if marked p = true then 255 else 251)
  | p :: q :: P => partOk p && decide (p.length ≤ 251) && partsOk (q :: P)
def lastF (s : List UInt8) : List UInt8 := (parts s).getLastD []
def isF (s : List UInt8) : Bool := partsOk (parts s) && decide (s.length ≤ if marked (lastF s) = true then 4096 else 4092)
def keepF (P : List (List UInt8)) : List (List UInt8) := P.filter fun p => decide (p ≠ [] ∧ p ≠ [46])
def cleanF (s : List UInt8) : Option (List UInt8) := if isF (join (keepF (parts s))) = true then some (join (keepF (parts s))) else none

theorem parts_ne (s : List UInt8) : parts s ≠ [] := by
  cases s with
  | nil => exact fun h => by cases h
  | cons c r =>
    rw [parts]
    split
    · exact fun h => by cases h
    · split <;> exact fun h => by cases h
theorem parts_slash (r : List UInt8) : parts (47 :: r) = [] :: parts r := by rw [parts, if_pos rfl]
theorem parts_other {c : UInt8} {r p : List UInt8} {P : List (List UInt8)} (hc : c ≠ 47) (h : parts r = p :: P) : parts (c :: r) = (c :: p) :: P := by rw [parts, if_neg hc, h]
/-- No part has a slash. -/
theorem parts_no : ∀ (s : List UInt8), ∀ p ∈ parts s, (47 : UInt8) ∉ p
  | [], p, h => by
    rw [List.mem_singleton.1 h]
    exact fun h => by cases h
  | c :: r, p, h => by
    by_cases hc : c = 47
    · rw [hc, parts_slash] at h
      rcases List.mem_cons.1 h with rfl | h
      · exact fun h => by cases h
      · exact parts_no r p h
    · match hp : parts r with
      | [] => exact absurd hp (parts_ne r)
      | q :: Q =>
        rw [parts_other hc hp] at h
        rcases List.mem_cons.1 h with rfl | h
        · intro hm
          rcases List.mem_cons.1 hm with e | hm
          · exact hc e.symm
          · exact parts_no r q (by rw [hp]; exact List.mem_cons_self) hm
        · exact parts_no r p (by rw [hp]; exact List.mem_cons_of_mem _ h)
theorem join_cons (p : List UInt8) {P : List (List UInt8)} (h : P ≠ []) : join (p :: P) = p ++ 47 :: join P := by
  match P, h with
  | q :: Q, _ => rfl
theorem join_parts : ∀ s : List UInt8, join (parts s) = s
  | [] => rfl
  | c :: r => by
    by_cases hc : c = 47
    · rw [hc, parts_slash, join_cons _ (parts_ne r), join_parts r]
      rfl
    · match hp : parts r with
      | [] => exact absurd hp (parts_ne r)
      | q :: Q =>
        rw [parts_other hc hp]
        have ih := join_parts r
        rw [hp] at ih
        match Q with
        | [] => exact congrArg (c :: ·) ih
        | q2 :: Q2 => exact congrArg (c :: ·) ih
/-- A text behind a part, and a slash. -/
theorem parts_app : ∀ (p r : List UInt8), (47 : UInt8) ∉ p → parts (p ++ 47 :: r) = p :: parts r
  | [], r, _ => parts_slash r
  | c :: p, r, h => by
    have hc : c ≠ 47 := fun e => h (by rw [e]; exact List.mem_cons_self)
    exact parts_other hc (parts_app p r fun hm => h (List.mem_cons_of_mem _ hm))
theorem parts_one : ∀ p : List UInt8, (47 : UInt8) ∉ p → parts p = [p]
  | [], _ => rfl
  | c :: p, h => by
    have hc : c ≠ 47 := fun e => h (by rw [e]; exact List.mem_cons_self)
    exact parts_other hc (parts_one p fun hm => h (List.mem_cons_of_mem _ hm))
theorem parts_join : ∀ {P : List (List UInt8)}, P ≠ [] → (∀ p ∈ P, (47 : UInt8) ∉ p) → parts (join P) = P
  | [p], _, h => parts_one p (h p List.mem_cons_self)
  | p :: q :: P, _, h => by
    rw [join_cons p (by exact fun h => by cases h), parts_app _ _ (h p List.mem_cons_self), parts_join (fun h => by cases h) fun x hx => h x (List.mem_cons_of_mem _ hx)]
/-- Two texts, one behind the other, with a slash between. -/
theorem parts_two : ∀ (s r : List UInt8), parts (s ++ 47 :: r) = parts s ++ parts r
  | [], r => parts_slash r
  | c :: s, r => by
    have ih := parts_two s r
    by_cases hc : c = 47
    · rw [hc, List.cons_append, parts_slash, parts_slash, ih]
      rfl
    · match hp : parts s with
      | [] => exact absurd hp (parts_ne s)
      | q :: Q =>
        rw [hp] at ih
        rw [List.cons_append, parts_other hc hp, parts_other hc ih]
        rfl
theorem keep_ok {P : List (List UInt8)} (h : partsOk P = true) : keepF P = P := by
  refine List.filter_eq_self.2 ?_
  induction P with
  | nil => exact fun _ h => by cases h
  | cons p P ih =>
    intro q hq
    have hp : partOk p = true ∧ (P ≠ [] → partsOk P = true) := by
      match P, h with
      | [], h =>
        rw [partsOk, Bool.and_eq_true] at h
        exact ⟨h.1, fun e => absurd rfl e⟩
      | r :: R, h =>
        rw [partsOk, Bool.and_eq_true, Bool.and_eq_true] at h
        exact ⟨h.1.1, fun _ => h.2⟩
    rcases List.mem_cons.1 hq with rfl | hq
    · have h1 := hp.1
      unfold partOk at h1
      rw [Bool.and_eq_true, Bool.and_eq_true, Bool.and_eq_true] at h1
      exact decide_eq_true ⟨of_decide_eq_true h1.1.1.1, of_decide_eq_true h1.1.1.2⟩
    · exact ih (hp.2 fun e => by rw [e] at hq; cases hq) q hq
/-- A path is clean. -/
theorem clean_is {s : List UInt8} (h : isF s = true) : cleanF s = some s := by
  have h1 : partsOk (parts s) = true := by
    unfold isF at h
    rw [Bool.and_eq_true] at h
    exact h.1
  unfold cleanF
  rw [keep_ok h1, join_parts, if_pos h]
theorem clean_some {s p : List UInt8} (h : cleanF s = some p) : isF p = true ∧ p = join (keepF (parts s)) := by
  unfold cleanF at h
  split at h
  next hi => exact ⟨by rw [← Option.some.inj h]; exact hi, (Option.some.inj h).symm⟩
  next => cases h
/-- Slashes and dots do not matter. -/
theorem clean_more (s : List UInt8) : cleanF ([47, 46, 47] ++ s ++ [47, 47, 46]) = cleanF s := by
  have e : keepF (parts ([47, 46, 47] ++ s ++ [47, 47, 46])) = keepF (parts s) := by
    rw [show [47, 46, 47] ++ s ++ [47, 47, 46] = (([] : List UInt8) ++ 47 :: ([46] ++ 47 :: (s ++ 47 :: ([] ++ 47 :: [46])))) from by simp]
    rw [parts_two, parts_two, parts_two, parts_two]
    show keepF ([[]] ++ ([[46]] ++ (parts s ++ ([[]] ++ [[46]])))) = _
    unfold keepF
    rw [List.filter_append, List.filter_append, List.filter_append, List.filter_append]
    simp
  unfold cleanF
  rw [e]
/-- No text that is empty is a path. -/
theorem is_ne {s : List UInt8} (h : isF s = true) : s ≠ [] := by
  intro e
  subst e
  exact absurd h (by decide)

/-- What is up to the last slash. -/
def parentF (s : List UInt8) : List UInt8 := join (parts s).dropLast
def underF (p q : List UInt8) : Bool := if p = [] then decide (q ≠ []) else (p ++ [47]).isPrefixOf q
/-- Bytes ahead of others. -/
def ltB : List UInt8 → List UInt8 → Bool
  | _, [] => false
  | [], _ :: _ => true
  | a :: x, b :: y => if a = b then ltB x y else decide (a.toNat < b.toNat)
def cmpP : List (List UInt8) → List (List UInt8) → Int
  | [], [] => 0
  | [], _ :: _ => -1
  | _ :: _, [] => 1
  | x :: X, y :: Y => if x = y then cmpP X Y else if ltB x y = true then -1 else 1
def partsR (s : List UInt8) : List (List UInt8) := if s = [] then [] else parts s
def compareF (a b : List UInt8) : Int := cmpP (partsR a) (partsR b)
def belowF (p q : List UInt8) : List UInt8 := if p = [] then q else p ++ 47 :: q
/-- A mark: 0 of what is none, or its kind and its path. -/
def markF (p : List UInt8) : Option (Int × List UInt8) :=
  if isF p = true then
    if marked (lastF p) = false then some (0, p)
    else if lastF p = opqK then some (2, parentF p)
    else if partOk ((lastF p).drop 4) = true ∧ marked ((lastF p).drop 4) = false then some (1, belowF (parentF p) ((lastF p).drop 4)) else none
  else none
end Pth
end Go.Proofs.Ytjbcagciaccbeaa
