/-
  The first record of a text, told by its bytes alone: no program is named here.
-/
import Derived.Test.YtembfnegbamdiaaDoorPxFns
namespace Go.Proofs.YtembfnegbamdiaaDoor
open Go
namespace Px

theorem takeWhile_app {α : Type} (f : α → Bool) (a : List α) (c : α) (x : List α) (h : ∀ y ∈ a, f y = true) (hc : f c = false) : (a ++ c :: x).takeWhile f = a := by
  induction a with
  | nil => simp [hc]
  | cons d r ih =>
    rw [List.cons_append, List.takeWhile_cons_of_pos (h d (List.mem_cons_self ..)), ih (fun y hy => h y (List.mem_cons_of_mem _ hy))]

/-- What the first record of a text can be: its pair, and how many bytes it has. -/
def bodyOf (s : List UInt8) (k n : Nat) : List UInt8 := (s.take (n - 1)).drop (k + 1)
def pairOf (b : List UInt8) : Pr := (b.takeWhile (· != 61), b.drop ((b.takeWhile (· != 61)).length + 1))
def oneF (s : List UInt8) : Option (Pr × Nat) :=
  if s.takeWhile isDig = [] ∨ 9 < (s.takeWhile isDig).length ∨ s.head? = some 48 then none
  else if s.length < val (s.takeWhile isDig) ∨ val (s.takeWhile isDig) < (s.takeWhile isDig).length + 4 ∨ s[(s.takeWhile isDig).length]? ≠ some 32 ∨ s[val (s.takeWhile isDig) - 1]? ≠ some 10 then none
  else if (pairOf (bodyOf s (s.takeWhile isDig).length (val (s.takeWhile isDig)))).1 = [] ∨
      (61 : UInt8) ∉ bodyOf s (s.takeWhile isDig).length (val (s.takeWhile isDig)) then none
  else if record (pairOf (bodyOf s (s.takeWhile isDig).length (val (s.takeWhile isDig)))) = s.take (val (s.takeWhile isDig)) then
    some (pairOf (bodyOf s (s.takeWhile isDig).length (val (s.takeWhile isDig))), val (s.takeWhile isDig))
  else none

theorem takeWhile_all {α : Type} (f : α → Bool) (l : List α) : ∀ x ∈ l.takeWhile f, f x = true := by
  induction l with
  | nil => intro x hx; cases hx
  | cons d r ih =>
    intro x hx
    by_cases h : f d = true
    · rw [List.takeWhile_cons_of_pos h] at hx
      rcases List.mem_cons.1 hx with rfl | hx
      · exact h
      · exact ih x hx
    · rw [List.takeWhile_cons_of_neg h] at hx
      cases hx

theorem one_some (s : List UInt8) (p : Pr) (n : Nat) (h : oneF s = some (p, n)) : okKey p.1 = true ∧ s = record p ++ s.drop n ∧ n = (record p).length := by
  rw [oneF] at h
  split at h
  · cases h
  split at h
  · cases h
  rename_i _ h2
  split at h
  · cases h
  rename_i h3
  split at h
  · rename_i h4
    cases h
    have hn : val (s.takeWhile isDig) ≤ s.length := by omega
    refine ⟨(okKey_iff _).2 ⟨fun e => h3 (Or.inl e), fun e => ?_⟩, ?_, ?_⟩
    · have := takeWhile_all (fun c : UInt8 => c != 61) _ 61 e
      simp at this
    · rw [h4, List.take_append_drop]
    · rw [h4, List.length_take, Nat.min_eq_left hn]
  · cases h

theorem rest_eq (p : Pr) : rest p = 32 :: p.1 ++ 61 :: p.2 ++ [10] := by simp [rest]

theorem one_record (p : Pr) (t : List UInt8) (hk : okKey p.1 = true) (hs : (record p).length < 10 ^ 9) : oneF (record p ++ t) = some (p, (record p).length) := by
  have hL := len_fix (rest p).length
  have hR := record_length p
  have hr := rest_length p
  obtain ⟨hk0, hk1⟩ := (okKey_iff _).1 hk
  have hd : (record p ++ t).takeWhile isDig = txt (len (rest p).length) := by
    rw [record, rest, List.append_assoc, List.cons_append]
    exact takeWhile_app _ _ _ _ (txt_dig _) (by decide)
  have hv : val ((record p ++ t).takeWhile isDig) = (record p).length := by rw [hd, val_txt, hR]
  have h9 : (txt (len (rest p).length)).length ≤ 8 + 1 := txt_len_pow 8 _ (by rw [← hR]; exact hs)
  have hk2 : 0 < p.1.length := List.length_pos_iff.2 hk0
  have htake : (record p ++ t).take (record p).length = record p := List.take_left
  have hbody : bodyOf (record p ++ t) (txt (len (rest p).length)).length (record p).length = p.1 ++ 61 :: p.2 := by
    rw [bodyOf, List.take_append_of_le_length (by omega)]
    have e : record p = (txt (len (rest p).length) ++ 32 :: (p.1 ++ 61 :: p.2)) ++ [10] := by simp [record, rest]
    rw [show (record p).take ((record p).length - 1) = txt (len (rest p).length) ++ 32 :: (p.1 ++ 61 :: p.2) by
      conv => lhs; arg 2; rw [e]
      rw [List.take_append_of_le_length, List.take_of_length_le]
      · rw [e]; simp; omega
      · rw [e]; simp; omega]
    rw [← List.drop_drop, List.drop_left]
    rfl
  have hkey : (p.1 ++ 61 :: p.2).takeWhile (· != 61) = p.1 :=
    takeWhile_app _ _ _ _ (fun y hy => by
      rw [bne_iff_ne]
      rintro rfl
      exact hk1 hy) (by decide)
  have hpair : pairOf (p.1 ++ 61 :: p.2) = p := by
    rw [pairOf, hkey, ← List.drop_drop, List.drop_left]
    rfl
  rw [oneF, hv, hd, hbody, hpair, htake]
  rw [if_neg, if_neg, if_neg, if_pos rfl]
  · rintro (h | h)
    · exact hk0 h
    · exact h (List.mem_append_right _ (List.mem_cons_self ..))
  · rintro (h | h | h | h)
    · rw [List.length_append] at h; omega
    · omega
    · refine h ?_
      rw [record, List.append_assoc, List.getElem?_append_right (Nat.le_refl _), Nat.sub_self]
      rfl
    · refine h ?_
      have e : record p = (txt (len (rest p).length) ++ 32 :: (p.1 ++ 61 :: p.2)) ++ [10] := by simp [record, rest]
      rw [e, List.append_assoc, List.length_append, List.length_singleton, Nat.add_sub_cancel, List.getElem?_append_right (Nat.le_refl _), Nat.sub_self]
      rfl
  · rintro (h | h | h)
    · exact txt_ne _ h
    · omega
    · rw [record, List.append_assoc, head_app _ _ (txt_ne _)] at h
      exact txt_head _ (by have := len_pos (rest p).length; omega) h

theorem one_none (s : List UInt8) (hs : s.length < 10 ^ 9) (h : oneF s = none) (p : Pr) (t : List UInt8) (hk : okKey p.1 = true) : s ≠ record p ++ t := by
  rintro rfl
  rw [one_record p t hk (by rw [List.length_append] at hs; omega)] at h
  cases h

/-- One step of reading: the first record, and what is behind it. -/
theorem parse_one (s : List UInt8) (hs : s.length < 10 ^ 9) (h0 : s ≠ []) :
    parseF s = match oneF s with
      | none => none
      | some (p, n) => (parseF (s.drop n)).map (p :: ·) := by
  cases e : oneF s with
  | none => exact parse_stop s h0 (one_none s hs e)
  | some q =>
    obtain ⟨hk, hq, -⟩ := one_some s q.1 q.2 e
    show parseF s = (parseF (s.drop q.2)).map (q.1 :: ·)
    conv => lhs; rw [hq]
    exact parse_cons q.1 _ hk
theorem one_pos (s : List UInt8) (p : Pr) (n : Nat) (h : oneF s = some (p, n)) : 0 < n ∧ n ≤ s.length := by
  obtain ⟨_, e, rfl⟩ := one_some s p n h
  refine ⟨List.length_pos_iff.2 (record_ne p), ?_⟩
  have := congrArg List.length e
  rw [List.length_append, List.length_drop] at this
  omega
end Px
end Go.Proofs.YtembfnegbamdiaaDoor
