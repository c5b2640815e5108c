/-
  Layer 15: marks, what is above a path, and a path's parts, step by step; no program is named here.
-/
import Derived.Test.YtjbcagciaccbeaaPaOrd
namespace Go.Proofs.Ytjbcagciaccbeaa
open Go
namespace Pth

theorem ok_cons {p : List UInt8} {P : List (List UInt8)} (h : partsOk (p :: P) = true) : partOk p = true ∧ p.length ≤ 255 ∧ partsOk P = true := by
  match P, h with
  | [], h =>
    rw [partsOk, Bool.and_eq_true] at h
    refine ⟨h.1, ?_, rfl⟩
    have := of_decide_eq_true h.2
    split at this <;> omega
  | q :: Q, h =>
    rw [partsOk, Bool.and_eq_true, Bool.and_eq_true] at h
    have := of_decide_eq_true h.1.2
    exact ⟨h.1.1, by omega, h.2⟩
theorem ok_mem : ∀ {P : List (List UInt8)}, partsOk P = true → ∀ p ∈ P, partOk p = true
  | [], _, _, hp => by cases hp
  | q :: Q, h, p, hp => by
    rcases List.mem_cons.1 hp with rfl | hp
    · exact (ok_cons h).1
    · exact ok_mem (ok_cons h).2.2 p hp
theorem part_ne {p : List UInt8} (h : partOk p = true) : p ≠ [] := by
  unfold partOk at h
  rw [Bool.and_eq_true, Bool.and_eq_true, Bool.and_eq_true] at h
  exact of_decide_eq_true h.1.1.1
theorem is_parts {s : List UInt8} (h : isF s = true) : partsOk (parts s) = true := by
  unfold isF at h
  rw [Bool.and_eq_true] at h
  exact h.1
theorem is_len {s : List UInt8} (h : isF s = true) : s.length ≤ 4096 := by
  unfold isF at h
  rw [Bool.and_eq_true] at h
  have := of_decide_eq_true h.2
  split at this <;> omega
theorem parts_split (s : List UInt8) : parts s = (parts s).dropLast ++ [lastF s] := by
  have g : ∀ (L : List (List UInt8)) (h : L ≠ []), L.getLastD [] = L.getLast h := fun L h => by
    match L, h with
    | a :: l, _ => rw [List.getLast_eq_getLastD, List.getLastD_cons]
  rw [show lastF s = (parts s).getLast (parts_ne s) from g _ _]
  exact (List.dropLast_concat_getLast (parts_ne s)).symm
theorem last_mem (s : List UInt8) : lastF s ∈ parts s := by
  rw [parts_split s]
  exact List.mem_append_right _ List.mem_cons_self
theorem drop_mem {s p : List UInt8} (h : p ∈ (parts s).dropLast) : p ∈ parts s := List.dropLast_subset _ h
theorem last_no (s : List UInt8) : (47 : UInt8) ∉ lastF s := parts_no s _ (last_mem s)
theorem join_ne {P : List (List UInt8)} (h : P ≠ []) (hp : ∀ p ∈ P, p ≠ []) : join P ≠ [] := by
  match P, h with
  | [p], _ => exact hp p List.mem_cons_self
  | p :: q :: Q, _ =>
    rw [join_cons p (by exact fun h => by cases h)]
    exact fun e => by
      have := congrArg List.length e
      simp at this
theorem parts_below {s n : List UInt8} (hs : isF s = true) (hn : (47 : UInt8) ∉ n) : parts (belowF (parentF s) n) = (parts s).dropLast ++ [n] := by
  unfold belowF parentF
  by_cases h : (parts s).dropLast = []
  · rw [h, join, if_pos rfl, parts_one n hn]
    rfl
  · have h1 : join (parts s).dropLast ≠ [] := join_ne h fun p hp => part_ne (ok_mem (is_parts hs) p (drop_mem hp))
    rw [if_neg h1, parts_two, parts_join h fun p hp => parts_no s p (drop_mem hp), parts_one n hn]
theorem last_of {s n : List UInt8} {I : List (List UInt8)} (h : parts s = I ++ [n]) : lastF s = n ∧ parentF s = join I := by
  unfold lastF parentF
  rw [h]
  refine ⟨?_, ?_⟩
  · rw [List.getLastD_eq_getLast?, List.getLast?_append]
    rfl
  · rw [List.dropLast_concat]
theorem below_last {s : List UInt8} (hs : isF s = true) : belowF (parentF s) (lastF s) = s := parts_inj (by rw [parts_below hs (last_no s), ← parts_split s])
/-- The text of which a mark may be told. -/
def candF (op : Int) (p : List UInt8) : List UInt8 := if op = 1 then belowF (parentF p) (whK ++ lastF p) else if op = 2 then belowF p opqK else p
def unmarkF (op : Int) (p : List UInt8) : Option (List UInt8) := if markF (candF op p) = some (op, p) then some (candF op p) else none
theorem marked_cut {p : List UInt8} (h : marked p = true) : p = whK ++ p.drop 4 := by
  unfold marked at h
  obtain ⟨r, rfl⟩ := List.isPrefixOf_iff_prefix.1 h
  rfl
theorem mark_is {s m : List UInt8} {k : Int} (h : markF s = some (k, m)) : isF s = true ∧ ((k = 0 ∧ m = s ∧ marked (lastF s) = false) ∨ (k = 2 ∧ m = parentF s ∧ lastF s = opqK) ∨ (k = 1 ∧ m = belowF (parentF s) ((lastF s).drop 4) ∧ marked (lastF s) = true)) := by
  unfold markF at h
  split at h
  next hi =>
    refine ⟨hi, ?_⟩
    split at h
    next hm =>
      have e := Option.some.inj h
      exact .inl ⟨(congrArg Prod.fst e).symm, (congrArg Prod.snd e).symm, hm⟩
    next hm =>
      split at h
      next ho =>
        have e := Option.some.inj h
        exact .inr (.inl ⟨(congrArg Prod.fst e).symm, (congrArg Prod.snd e).symm, ho⟩)
      next =>
        split at h
        next =>
          have e := Option.some.inj h
          exact .inr (.inr ⟨(congrArg Prod.fst e).symm, (congrArg Prod.snd e).symm, by simpa using hm⟩)
        next => cases h
  next => cases h
theorem mark_cand {s m : List UInt8} {k : Int} (h : markF s = some (k, m)) : candF k m = s := by
  obtain ⟨hi, ⟨rfl, rfl, _⟩ | ⟨rfl, rfl, ho⟩ | ⟨rfl, rfl, hm⟩⟩ := mark_is h
  · rfl
  · show belowF (parentF s) opqK = s
    rw [← ho, below_last hi]
  · show belowF (parentF (belowF (parentF s) ((lastF s).drop 4))) (whK ++ lastF (belowF (parentF s) ((lastF s).drop 4))) = s
    have hn : (47 : UInt8) ∉ (lastF s).drop 4 := fun h => last_no s (List.mem_of_mem_drop h)
    obtain ⟨h1, h2⟩ := last_of (parts_below hi hn)
    rw [h1, h2, ← marked_cut hm]
    exact below_last hi
/-- Marks are told as they were made. -/
theorem unmark_mark {s m : List UInt8} {k : Int} (h : markF s = some (k, m)) : unmarkF k m = some s := by
  unfold unmarkF
  rw [mark_cand h, if_pos h]
theorem mark_unmark {a s : List UInt8} {op : Int} (h : unmarkF op a = some s) : markF s = some (op, a) := by
  unfold unmarkF at h
  split at h
  next hm => rw [← Option.some.inj h]; exact hm
  next => cases h
/-- It is the only path of which Mark tells so. -/
theorem unmark_none {a s : List UInt8} {op : Int} (h : unmarkF op a = none) : markF s ≠ some (op, a) := by
  intro hs
  rw [unmark_mark hs] at h
  cases h
theorem mark_put {s m : List UInt8} (h : markF s = some (0, m)) : m = s := by
  obtain ⟨_, ⟨_, h, _⟩ | ⟨h, _⟩ | ⟨h, _⟩⟩ := mark_is h
  · exact h
  · exact absurd h (by decide)
  · exact absurd h (by decide)

theorem join_keep : ∀ P : List (List UInt8), (join (keepF P)).length ≤ (join P).length
  | [] => Nat.le_refl _
  | p :: P => by
    have ih := join_keep P
    by_cases hP : P = []
    · subst hP
      unfold keepF
      rw [List.filter_cons]
      split
      · exact Nat.le_refl _
      · exact Nat.zero_le _
    · rw [join_cons p hP, List.length_append, List.length_cons]
      unfold keepF at ih ⊢
      rw [List.filter_cons]
      split
      · by_cases h : P.filter (fun p => decide (p ≠ [] ∧ p ≠ [46])) = []
        · rw [h]
          show p.length ≤ _
          omega
        · rw [join_cons p h, List.length_append, List.length_cons]
          omega
      · omega
theorem clean_len {s p : List UInt8} (h : cleanF s = some p) : p.length ≤ s.length := by
  rw [(clean_some h).2]
  have := join_keep (parts s)
  rw [join_parts] at this
  exact this
theorem parts_few : ∀ {P : List (List UInt8)}, P ≠ [] → (∀ p ∈ P, p ≠ []) → 2 * P.length ≤ (join P).length + 1
  | [p], _, h => by
    have := List.length_pos_iff.2 (h p List.mem_cons_self)
    show 2 * 1 ≤ p.length + 1
    omega
  | p :: q :: Q, _, h => by
    have := List.length_pos_iff.2 (h p List.mem_cons_self)
    have ih := parts_few (P := q :: Q) (fun h => by cases h) fun x hx => h x (List.mem_cons_of_mem _ hx)
    rw [join_cons p (by exact fun h => by cases h), List.length_append, List.length_cons (as := join (q :: Q))]
    rw [List.length_cons] at ih ⊢
    rw [List.length_cons]
    omega
theorem is_few {s : List UInt8} (h : isF s = true) : 2 * (parts s).length ≤ s.length + 1 := by
  have := parts_few (parts_ne s) fun p hp => part_ne (ok_mem (is_parts h) p hp)
  rw [join_parts] at this
  exact this

/-- What is up, and was it x?, after so many steps. -/
def upF (x y : List UInt8) : Nat → List UInt8 × Bool
  | 0 => (y, false)
  | i + 1 => (parentF (upF x y i).1, (upF x y i).2 || decide (parentF (upF x y i).1 = x))
theorem parent_root : parentF [] = [] := rfl
theorem parent_join {L : List (List UInt8)} (hL : ∀ p ∈ L, (47 : UInt8) ∉ p) : parentF (join L) = join L.dropLast := by
  by_cases h : L = []
  · rw [h]
    rfl
  · unfold parentF
    rw [parts_join h hL]
theorem up_at {x y : List UInt8} : ∀ i, i ≤ (parts y).length → (upF x y i).1 = join ((parts y).take ((parts y).length - i))
  | 0, _ => by rw [Nat.sub_zero, List.take_length, join_parts]; rfl
  | i + 1, h => by
    show parentF (upF x y i).1 = _
    rw [up_at i (by omega), parent_join fun p hp => parts_no y p (List.mem_of_mem_take hp), List.dropLast_eq_take, List.take_take, List.length_take]
    rw [show min (min ((parts y).length - i) (parts y).length - 1) ((parts y).length - i) = (parts y).length - (i + 1) from by omega]
theorem up_more {x y : List UInt8} (hy : isF y = true) {i : Nat} (h : i < (parts y).length) : (upF x y i).1 ≠ [] := by
  rw [up_at i (by omega)]
  refine join_ne (fun e => ?_) fun p hp => part_ne (ok_mem (is_parts hy) p (List.mem_of_mem_take hp))
  have := congrArg List.length e
  rw [List.length_take] at this
  simp at this
  omega
theorem up_end (x y : List UInt8) : (upF x y (parts y).length).1 = [] := by
  rw [up_at _ (Nat.le_refl _), Nat.sub_self]
  rfl
theorem up_hit {x y : List UInt8} : ∀ i, (upF x y i).2 = true ↔ ∃ k, k < i ∧ (upF x y (k + 1)).1 = x
  | 0 => ⟨(fun h => by cases h), fun ⟨_, h, _⟩ => absurd h (Nat.not_lt_zero _)⟩
  | i + 1 => by
    show ((upF x y i).2 || decide (parentF (upF x y i).1 = x)) = true ↔ _
    rw [Bool.or_eq_true, up_hit i]
    constructor
    · rintro (⟨k, hk, e⟩ | e)
      · exact ⟨k, by omega, e⟩
      · exact ⟨i, by omega, of_decide_eq_true e⟩
    · rintro ⟨k, hk, e⟩
      by_cases h : k = i
      · subst h
        exact .inr (decide_eq_true e)
      · exact .inl ⟨k, by omega, e⟩
/-- What is below a path has it above, step by step. -/
theorem up_under {x y : List UInt8} (hx : x ≠ []) : (upF x y (parts y).length).2 = underF x y := by
  refine Bool.eq_iff_iff.2 ?_
  rw [up_hit, under_parts hx]
  constructor
  · rintro ⟨k, hk, e⟩
    rw [up_at (k + 1) (by omega)] at e
    have hne : (parts y).take ((parts y).length - (k + 1)) ≠ [] := fun h => by
      rw [h] at e
      exact hx e.symm
    have hp : parts x = (parts y).take ((parts y).length - (k + 1)) := by
      rw [← e, parts_join hne fun p hp => parts_no y p (List.mem_of_mem_take hp)]
    refine ⟨(parts y).drop ((parts y).length - (k + 1)), fun h => ?_, by rw [hp, List.take_append_drop]⟩
    have := congrArg List.length h
    rw [List.length_drop] at this
    simp at this
    omega
  · rintro ⟨R, hR, h⟩
    have hl := congrArg List.length h
    rw [List.length_append] at hl
    have hr := List.length_pos_iff.2 hR
    refine ⟨R.length - 1, by omega, ?_⟩
    rw [up_at _ (by omega), show (parts y).length - (R.length - 1 + 1) = (parts x).length from by omega, h, List.take_left, join_parts]
theorem under_parent {y : List UInt8} (hy : isF y = true) : underF (parentF y) y = true := by
  by_cases h : parentF y = []
  · rw [h]
    exact under_root (is_ne hy)
  · have e := below_last hy
    unfold belowF at e
    rw [if_neg h] at e
    exact (under_iff h).2 ⟨_, e.symm⟩
end Pth
end Go.Proofs.Ytjbcagciaccbeaa
