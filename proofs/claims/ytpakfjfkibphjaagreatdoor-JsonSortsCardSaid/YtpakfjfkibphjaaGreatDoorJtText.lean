/-
  Layer 10: what is quoted, and what a text means, as plain functions; no program is named here.
-/
import Derived.Test.YtpakfjfkibphjaaGreatDoorJtFns
namespace Go.Proofs.YtpakfjfkibphjaaGreatDoor
open Go
namespace Jt

theorem char_cut {a : UInt8} {r : List UInt8} (h : (charF (a :: r)).2 ≠ 0) : a :: r = bytesF (charF (a :: r)).1 ++ r.drop ((charF (a :: r)).2 - 1) := by
  obtain ⟨_, h2, t, h3⟩ := char_is h
  have hp := bytes_pos (charF (a :: r)).1
  have e : r.drop ((charF (a :: r)).2 - 1) = t := by
    have e1 : (a :: r).drop (charF (a :: r)).2 = t := (congrArg (List.drop (charF (a :: r)).2) h3).trans (List.drop_left' h2.symm)
    rw [← e1]
    conv => rhs; rw [show (charF (a :: r)).2 = ((charF (a :: r)).2 - 1) + 1 by omega, List.drop_succ_cons]
  rw [e]
  exact h3
/-- Bytes, character by character. -/
theorem ch_ind {P : List UInt8 → Prop} (h0 : P []) (h1 : ∀ a r, (charF (a :: r)).2 = 0 → P r → P (a :: r)) (h2 : ∀ n t, scalar n = true → P t → P (bytesF n ++ t)) : ∀ s, P s := by
  have key : ∀ k (s : List UInt8), s.length ≤ k → P s := by
    intro k
    induction k with
    | zero =>
      intro s hs
      rw [List.eq_nil_of_length_eq_zero (Nat.le_zero.1 hs)]
      exact h0
    | succ k ih =>
      intro s hs
      match s, hs with
      | [], _ => exact h0
      | a :: r, hs =>
        rw [List.length_cons] at hs
        by_cases h : (charF (a :: r)).2 = 0
        · exact h1 a r h (ih r (by omega))
        · rw [char_cut h]
          exact h2 _ _ (char_is h).1 (ih _ (by rw [List.length_drop]; omega))
  exact fun s => key s.length s (Nat.le_refl _)

def hexd (d : Nat) : UInt8 := if d < 10 then UInt8.ofNat (48 + d) else UInt8.ofNat (87 + d)
def hexv (c : UInt8) : Option Nat :=
  if 48 ≤ c.toNat ∧ c.toNat ≤ 57 then some (c.toNat - 48)
  else if 97 ≤ c.toNat ∧ c.toNat ≤ 102 then some (c.toNat - 87)
  else if 65 ≤ c.toNat ∧ c.toNat ≤ 70 then some (c.toNat - 55)
  else none
theorem hexv_d (d : Nat) (h : d < 16) : hexv (hexd d) = some d := by
  have : ∀ d : Fin 16, hexv (hexd d.1) = some d.1 := by decide
  exact this ⟨d, h⟩
theorem hexv_lt {c : UInt8} {d : Nat} (h : hexv c = some d) : d < 16 := by
  unfold hexv at h
  split at h
  · cases h; omega
  split at h
  · cases h; omega
  split at h
  · cases h; omega
  · cases h
/-- The number of four hexadecimal digits. -/
def hexq (a b c d : UInt8) : Option Nat :=
  (hexv a).bind fun w => (hexv b).bind fun x => (hexv c).bind fun y => (hexv d).map fun z => ((w * 16 + x) * 16 + y) * 16 + z
def hex4 : List UInt8 → Option Nat
  | a :: b :: c :: d :: _ => hexq a b c d
  | _ => none
theorem hex4_cut {r : List UInt8} {n : Nat} (h : hex4 r = some n) : n < 65536 ∧ ∃ a b c d t, r = a :: b :: c :: d :: t ∧ hexq a b c d = some n := by
  match r with
  | [] => cases h
  | [_] => cases h
  | [_, _] => cases h
  | [_, _, _] => cases h
  | a :: b :: c :: d :: t =>
    rw [hex4] at h
    refine ⟨?_, a, b, c, d, t, rfl, h⟩
    unfold hexq at h
    obtain ⟨w, h1, h⟩ := Option.bind_eq_some_iff.1 h
    obtain ⟨x, h2, h⟩ := Option.bind_eq_some_iff.1 h
    obtain ⟨y, h3, h⟩ := Option.bind_eq_some_iff.1 h
    obtain ⟨z, h4, h⟩ := Option.map_eq_some_iff.1 h
    have := hexv_lt h1
    have := hexv_lt h2
    have := hexv_lt h3
    have := hexv_lt h4
    omega
/-- How a character below 80 is quoted. -/
def oneF (n : Nat) : List UInt8 :=
  if n = 8 then [92, 98] else if n = 9 then [92, 116] else if n = 10 then [92, 110] else if n = 12 then [92, 102] else if n = 13 then [92, 114] else if n = 34 then [92, 34]
  else if n = 92 then [92, 92] else if n < 32 then [92, 117, 48, 48, hexd (n / 16), hexd (n % 16)] else bytesF n
def quoteB : List UInt8 → List UInt8
  | [] => []
  | a :: r => if (charF (a :: r)).2 = 0 then [239, 191, 189] ++ quoteB r
    else (if (charF (a :: r)).1 < 128 then oneF (charF (a :: r)).1 else bytesF (charF (a :: r)).1) ++ quoteB (r.drop ((charF (a :: r)).2 - 1))
termination_by s => s.length
decreasing_by
  · simp
  · simp only [List.length_drop, List.length_cons]; omega
def quoteF (s : List UInt8) : List UInt8 := 34 :: (quoteB s ++ [34])
/-- What is behind the first of two numbers that mean one character. -/
def lowF (n : Nat) : List UInt8 → Option (List UInt8 × Nat)
  | x :: y :: r => if x = 92 ∧ y = 117 then (hex4 r).bind fun m => if 56320 ≤ m ∧ m ≤ 57343 then some (bytesF (65536 + (n - 55296) * 1024 + (m - 56320)), 11) else none else none
  | _ => none
/-- What stands behind a \: its bytes, and how many it has. -/
def escF : List UInt8 → Option (List UInt8 × Nat)
  | [] => none
  | a :: r => if a = 98 then some (bytesF 8, 1) else if a = 116 then some (bytesF 9, 1) else if a = 110 then some (bytesF 10, 1) else if a = 102 then some (bytesF 12, 1)
    else if a = 114 then some (bytesF 13, 1) else if a = 34 then some (bytesF 34, 1) else if a = 47 then some (bytesF 47, 1) else if a = 92 then some (bytesF 92, 1)
    else if a = 117 then (hex4 r).bind fun n => if n < 55296 ∨ 57343 < n then some (bytesF n, 5) else if 56319 < n then none else lowF n (r.drop 4)
    else none
def unqB : List UInt8 → Option (List UInt8 × Nat)
  | [] => none
  | a :: r => if a = 34 then some ([], 1)
    else if a = 92 then (escF r).bind fun e => (unqB (r.drop e.2)).map fun p => (e.1 ++ p.1, 1 + e.2 + p.2)
    else if (charF (a :: r)).2 = 0 ∨ (charF (a :: r)).1 < 32 then none
    else (unqB (r.drop ((charF (a :: r)).2 - 1))).map fun p => (bytesF (charF (a :: r)).1 ++ p.1, (charF (a :: r)).2 + p.2)
termination_by s => s.length
decreasing_by
  · simp only [List.length_drop, List.length_cons]; omega
  · simp only [List.length_drop, List.length_cons]; omega
def unqF : List UInt8 → Option (List UInt8 × Nat)
  | [] => none
  | a :: r => if a = 34 then (unqB r).map fun p => (p.1, 1 + p.2) else none
/-- Bytes that are none of a right character made right. -/
def fixF : List UInt8 → List UInt8
  | [] => []
  | a :: r => if (charF (a :: r)).2 = 0 then bytesF 65533 ++ fixF r else bytesF (charF (a :: r)).1 ++ fixF (r.drop ((charF (a :: r)).2 - 1))
termination_by s => s.length
decreasing_by
  · simp
  · simp only [List.length_drop, List.length_cons]; omega
def validF : List UInt8 → Bool
  | [] => true
  | a :: r => if (charF (a :: r)).2 = 0 then false else validF (r.drop ((charF (a :: r)).2 - 1))
termination_by s => s.length
decreasing_by
  simp only [List.length_drop, List.length_cons]; omega

theorem bytes_cons (n : Nat) : ∃ a r, bytesF n = a :: r := by
  match h : bytesF n with
  | [] => have := bytes_pos n; rw [h] at this; exact absurd this (by decide)
  | a :: r => exact ⟨a, r, rfl⟩
/-- Behind a character. -/
theorem ch_front {n : Nat} (hn : scalar n = true) (t : List UInt8) : ∃ a r, bytesF n ++ t = a :: r ∧ charF (a :: r) = (n, (bytesF n).length) ∧ r.drop ((bytesF n).length - 1) = t := by
  obtain ⟨a, r, h⟩ := bytes_cons n
  refine ⟨a, r ++ t, by rw [h]; rfl, ?_, ?_⟩
  · have := char_bytes hn t
    rw [h] at this ⊢
    exact this
  · rw [h]
    exact List.drop_left
theorem quote_ch {n : Nat} (hn : scalar n = true) (t : List UInt8) : quoteB (bytesF n ++ t) = (if n < 128 then oneF n else bytesF n) ++ quoteB t := by
  obtain ⟨a, r, h1, h2, h3⟩ := ch_front hn t
  have hp := bytes_pos n
  rw [h1, quoteB, h2, h3]
  simp only
  rw [if_neg (by omega)]
theorem bad_bytes : ([239, 191, 189] : List UInt8) = bytesF 65533 := by decide
theorem quote_bad {a : UInt8} {r : List UInt8} (h : (charF (a :: r)).2 = 0) : quoteB (a :: r) = bytesF 65533 ++ quoteB r := by
  rw [quoteB, if_pos h, bad_bytes]
theorem fix_ch {n : Nat} (hn : scalar n = true) (t : List UInt8) : fixF (bytesF n ++ t) = bytesF n ++ fixF t := by
  obtain ⟨a, r, h1, h2, h3⟩ := ch_front hn t
  have hp := bytes_pos n
  rw [h1, fixF, h2, h3]
  simp only
  rw [if_neg (by omega)]
theorem fix_bad {a : UInt8} {r : List UInt8} (h : (charF (a :: r)).2 = 0) : fixF (a :: r) = bytesF 65533 ++ fixF r := by rw [fixF, if_pos h]
theorem valid_ch {n : Nat} (hn : scalar n = true) (t : List UInt8) : validF (bytesF n ++ t) = validF t := by
  obtain ⟨a, r, h1, h2, h3⟩ := ch_front hn t
  have hp := bytes_pos n
  rw [h1, validF, h2, h3]
  simp only
  rw [if_neg (by omega)]
theorem valid_bad {a : UInt8} {r : List UInt8} (h : (charF (a :: r)).2 = 0) : validF (a :: r) = false := by rw [validF, if_pos h]
theorem valid_nil : validF [] = true := by rw [validF]
theorem quote_nil : quoteB [] = [] := by rw [quoteB]
theorem fix_nil : fixF [] = [] := by rw [fixF]
theorem fix_valid : ∀ s, validF (fixF s) = true := by
  refine ch_ind ?_ ?_ ?_
  · rw [fix_nil, valid_nil]
  · intro a r h ih
    rw [fix_bad h, valid_ch (by decide), ih]
  · intro n t hn ih
    rw [fix_ch hn, valid_ch hn, ih]
theorem fix_same : ∀ s, validF s = true → fixF s = s := by
  refine ch_ind ?_ ?_ ?_
  · intro _
    exact fix_nil
  · intro a r h _ hv
    rw [valid_bad h] at hv
    cases hv
  · intro n t hn ih hv
    rw [valid_ch hn] at hv
    rw [fix_ch hn, ih hv]
/-- A right text behind which others stand. -/
theorem quote_app (b : List UInt8) : ∀ a, validF a = true → quoteB (a ++ b) = quoteB a ++ quoteB b := by
  refine ch_ind ?_ ?_ ?_
  · intro _
    rw [quote_nil]
    rfl
  · intro a r h _ hv
    rw [valid_bad h] at hv
    cases hv
  · intro n t hn ih hv
    rw [valid_ch hn] at hv
    rw [List.append_assoc, quote_ch hn, quote_ch hn, ih hv, List.append_assoc]

/-! What is quoted is read. -/
theorem first_of {n : Nat} (hn : scalar n = true) (t : List UInt8) : ∃ a r, bytesF n ++ t = a :: r ∧ charF (a :: r) = (n, (bytesF n).length) ∧ r.drop ((bytesF n).length - 1) = t ∧ (n ≠ 34 → a ≠ 34) ∧ (n ≠ 92 → a ≠ 92) := by
  obtain ⟨a, r, h1, h2, h3⟩ := ch_front hn t
  refine ⟨a, r, h1, h2, h3, fun h e => ?_, fun h e => ?_⟩
  · subst e
    rw [charF, if_pos (by decide)] at h2
    exact h (congrArg Prod.fst h2).symm
  · subst e
    rw [charF, if_pos (by decide)] at h2
    exact h (congrArg Prod.fst h2).symm
theorem unq_ch {n : Nat} (hn : scalar n = true) (h32 : ¬ n < 32) (h34 : n ≠ 34) (h92 : n ≠ 92) (t : List UInt8) : unqB (bytesF n ++ t) = (unqB t).map fun p => (bytesF n ++ p.1, (bytesF n).length + p.2) := by
  obtain ⟨a, r, h1, h2, h3, h4, h5⟩ := first_of hn t
  have hp := bytes_pos n
  rw [h1, unqB, if_neg (h4 h34), if_neg (h5 h92), h2, h3]
  simp only
  rw [if_neg (by omega)]
theorem unq_esc {r x : List UInt8} {k : Nat} (h : escF r = some (x, k)) : unqB (92 :: r) = (unqB (r.drop k)).map fun p => (x ++ p.1, 1 + k + p.2) := by
  rw [unqB, if_neg (by decide), if_pos rfl, h]
  rfl
theorem unq_end (t : List UInt8) : unqB (34 :: t) = some ([], 1) := by rw [unqB, if_pos rfl]
theorem unq_nil : unqB [] = none := by rw [unqB]
theorem esc_hex {n : Nat} (h : n < 32) (t : List UInt8) : escF (117 :: 48 :: 48 :: hexd (n / 16) :: hexd (n % 16) :: t) = some (bytesF n, 5) := by
  have e : hexq 48 48 (hexd (n / 16)) (hexd (n % 16)) = some n := by
    have h0 : hexv 48 = some 0 := by decide
    unfold hexq
    rw [h0, hexv_d _ (by omega), hexv_d _ (by omega)]
    show some (((0 * 16 + 0) * 16 + n / 16) * 16 + n % 16) = some n
    congr 1
    omega
  rw [escF, if_neg (by decide), if_neg (by decide), if_neg (by decide), if_neg (by decide), if_neg (by decide), if_neg (by decide), if_neg (by decide), if_neg (by decide), if_pos rfl, hex4, e]
  show (if n < 55296 ∨ 57343 < n then some (bytesF n, 5) else _) = _
  rw [if_pos (by omega)]
theorem unq_one {n : Nat} (h : n < 128) (t : List UInt8) : unqB (oneF n ++ t) = (unqB t).map fun p => (bytesF n ++ p.1, (oneF n).length + p.2) := by
  unfold oneF
  split
  · rename_i e; subst e; exact unq_esc (r := 98 :: t) rfl
  split
  · rename_i e; subst e; exact unq_esc (r := 116 :: t) rfl
  split
  · rename_i e; subst e; exact unq_esc (r := 110 :: t) rfl
  split
  · rename_i e; subst e; exact unq_esc (r := 102 :: t) rfl
  split
  · rename_i e; subst e; exact unq_esc (r := 114 :: t) rfl
  split
  · rename_i e; subst e; exact unq_esc (r := 34 :: t) rfl
  split
  · rename_i e; subst e; exact unq_esc (r := 92 :: t) rfl
  split
  · rename_i e
    exact unq_esc (r := 117 :: 48 :: 48 :: hexd (n / 16) :: hexd (n % 16) :: t) (esc_hex e t)
  · exact unq_ch (scalar_is.2 (by omega)) (by assumption) (by assumption) (by assumption) t
/-- What is quoted is read, whatever stands behind it. -/
theorem unq_quote (rest : List UInt8) : ∀ s, unqB (quoteB s ++ 34 :: rest) = some (fixF s, (quoteB s).length + 1) := by
  refine ch_ind ?_ ?_ ?_
  · rw [quote_nil, fix_nil]
    exact unq_end rest
  · intro a r h ih
    rw [quote_bad h, fix_bad h, List.append_assoc, unq_ch (by decide) (by decide) (by decide) (by decide), ih, List.length_append, Nat.add_assoc]
    rfl
  · intro n t hn ih
    rw [quote_ch hn, fix_ch hn, List.append_assoc]
    by_cases h : n < 128
    · rw [if_pos h, unq_one h, ih, List.length_append, Nat.add_assoc]
      rfl
    · rw [if_neg h, unq_ch hn (by omega) (by omega) (by omega), ih, List.length_append, Nat.add_assoc]
      rfl
theorem unq_back (s rest : List UInt8) : unqF (quoteF s ++ rest) = some (fixF s, (quoteF s).length) := by
  have e : quoteF s ++ rest = 34 :: (quoteB s ++ 34 :: rest) := by
    unfold quoteF
    rw [List.cons_append, List.append_assoc]
    rfl
  rw [e, unqF, if_pos rfl, unq_quote]
  show some (fixF s, 1 + ((quoteB s).length + 1)) = _
  unfold quoteF
  rw [List.length_cons, List.length_append, List.length_singleton, Nat.add_comm]
theorem quote_parts (a b : List UInt8) (ha : validF a = true) : quoteF (a ++ b) = (quoteF a).take ((quoteF a).length - 1) ++ (quoteF b).drop 1 := by
  have e : quoteF a = (34 :: quoteB a) ++ [34] := rfl
  rw [e, List.length_append, List.length_singleton, Nat.add_sub_cancel, List.take_left]
  unfold quoteF
  rw [quote_app b a ha, List.append_assoc]
  rfl

/-! What is read: right; and what is behind it does not matter. -/
theorem low_cut {n : Nat} {r x : List UInt8} {k : Nat} (h1 : 55296 ≤ n) (h2 : n ≤ 56319) (h : lowF n r = some (x, k)) : k = 11 ∧ (∃ c, scalar c = true ∧ x = bytesF c) ∧ ∃ e t, r = e ++ t ∧ e.length = 6 ∧ ∀ u, lowF n (e ++ u) = some (x, k) := by
  match r with
  | [] => cases h
  | [_] => cases h
  | a :: b :: r =>
    rw [lowF] at h
    split at h
    · rename_i hab
      obtain ⟨m, hm, h⟩ := Option.bind_eq_some_iff.1 h
      split at h
      · rename_i hr
        simp only [Option.some.injEq, Prod.mk.injEq] at h
        obtain ⟨rfl, rfl⟩ := h
        obtain ⟨_, c1, c2, c3, c4, t, rfl, hq⟩ := hex4_cut hm
        refine ⟨rfl, ⟨_, scalar_is.2 (by omega), rfl⟩, [a, b, c1, c2, c3, c4], t, rfl, rfl, fun u => ?_⟩
        show lowF n (a :: b :: c1 :: c2 :: c3 :: c4 :: u) = _
        rw [lowF, if_pos hab, hex4, hq]
        exact if_pos hr
      · cases h
    · cases h
theorem esc_simple {a : UInt8} {r x : List UInt8} {k : Nat} {c : Nat} (hs : scalar c = true) (e : ∀ u, escF (a :: u) = some (bytesF c, 1)) (h : escF (a :: r) = some (x, k)) :
    (∃ c, scalar c = true ∧ x = bytesF c) ∧ ∃ e t, a :: r = e ++ t ∧ e.length = k ∧ ∀ u, escF (e ++ u) = some (x, k) := by
  rw [e r] at h
  simp only [Option.some.injEq, Prod.mk.injEq] at h
  obtain ⟨rfl, rfl⟩ := h
  exact ⟨⟨c, hs, rfl⟩, [a], r, rfl, rfl, fun u => e u⟩
theorem esc_cut {r x : List UInt8} {k : Nat} (h : escF r = some (x, k)) : (∃ c, scalar c = true ∧ x = bytesF c) ∧ ∃ e t, r = e ++ t ∧ e.length = k ∧ ∀ u, escF (e ++ u) = some (x, k) := by
  match r with
  | [] => cases h
  | a :: r =>
    by_cases a1 : a = 98
    · subst a1; exact esc_simple (c := 8) rfl (fun u => rfl) h
    by_cases a2 : a = 116
    · subst a2; exact esc_simple (c := 9) rfl (fun u => rfl) h
    by_cases a3 : a = 110
    · subst a3; exact esc_simple (c := 10) rfl (fun u => rfl) h
    by_cases a4 : a = 102
    · subst a4; exact esc_simple (c := 12) rfl (fun u => rfl) h
    by_cases a5 : a = 114
    · subst a5; exact esc_simple (c := 13) rfl (fun u => rfl) h
    by_cases a6 : a = 34
    · subst a6; exact esc_simple (c := 34) rfl (fun u => rfl) h
    by_cases a7 : a = 47
    · subst a7; exact esc_simple (c := 47) rfl (fun u => rfl) h
    by_cases a8 : a = 92
    · subst a8; exact esc_simple (c := 92) rfl (fun u => rfl) h
    rw [escF, if_neg a1, if_neg a2, if_neg a3, if_neg a4, if_neg a5, if_neg a6, if_neg a7, if_neg a8] at h
    by_cases a9 : a = 117
    · rw [if_pos a9] at h
      obtain ⟨n, hn, h⟩ := Option.bind_eq_some_iff.1 h
      obtain ⟨hlt, c1, c2, c3, c4, t, rfl, hq⟩ := hex4_cut hn
      have ef : ∀ u, escF (a :: c1 :: c2 :: c3 :: c4 :: u) = if n < 55296 ∨ 57343 < n then some (bytesF n, 5) else if 56319 < n then none else lowF n u := fun u => by
        rw [escF, if_neg a1, if_neg a2, if_neg a3, if_neg a4, if_neg a5, if_neg a6, if_neg a7, if_neg a8, if_pos a9, hex4, hq]
        rfl
      by_cases hw : n < 55296 ∨ 57343 < n
      · rw [if_pos hw] at h
        simp only [Option.some.injEq, Prod.mk.injEq] at h
        obtain ⟨rfl, rfl⟩ := h
        exact ⟨⟨n, scalar_is.2 (by omega), rfl⟩, [a, c1, c2, c3, c4], t, rfl, rfl, fun u => by
          show escF (a :: c1 :: c2 :: c3 :: c4 :: u) = _
          rw [ef u, if_pos hw]⟩
      · rw [if_neg hw] at h
        by_cases hh : 56319 < n
        · rw [if_pos hh] at h
          cases h
        · rw [if_neg hh] at h
          obtain ⟨rfl, hc, e, t2, e1, e2, e3⟩ := low_cut (by omega) (by omega) h
          have e1 : t = e ++ t2 := e1
          refine ⟨hc, a :: c1 :: c2 :: c3 :: c4 :: e, t2, by rw [e1]; rfl, by simp only [List.length_cons, e2], fun u => ?_⟩
          show escF (a :: c1 :: c2 :: c3 :: c4 :: (e ++ u)) = _
          rw [ef, if_neg hw, if_neg hh, e3]
    · rw [if_neg a9] at h
      cases h
/-- What a text means is right; what stands behind the text does not matter. -/
theorem unq_cut : ∀ (m : Nat) (s : List UInt8), s.length ≤ m → ∀ x k, unqB s = some (x, k) → validF x = true ∧ ∃ e t, s = e ++ t ∧ e.length = k ∧ 0 < k ∧ ∀ u, unqB (e ++ u) = some (x, k) := by
  intro m
  induction m with
  | zero =>
    intro s hs x k h
    rw [List.eq_nil_of_length_eq_zero (Nat.le_zero.1 hs), unq_nil] at h
    cases h
  | succ m ih =>
    intro s hs x k h
    match s, hs with
    | [], _ => rw [unq_nil] at h; cases h
    | a :: r, hs =>
      rw [List.length_cons] at hs
      rw [unqB] at h
      by_cases a1 : a = 34
      · rw [if_pos a1] at h
        simp only [Option.some.injEq, Prod.mk.injEq] at h
        obtain ⟨rfl, rfl⟩ := h
        subst a1
        exact ⟨valid_nil, [34], r, rfl, rfl, by decide, fun u => unq_end u⟩
      rw [if_neg a1] at h
      by_cases a2 : a = 92
      · rw [if_pos a2] at h
        subst a2
        obtain ⟨⟨y, j⟩, hy, h⟩ := Option.bind_eq_some_iff.1 h
        obtain ⟨⟨z, i⟩, hz, h⟩ := Option.map_eq_some_iff.1 h
        simp only [Prod.mk.injEq] at h
        obtain ⟨rfl, rfl⟩ := h
        obtain ⟨⟨c, hc, rfl⟩, e, t, rfl, rfl, he⟩ := esc_cut hy
        simp only [List.drop_left] at hz
        obtain ⟨v, e2, t2, rfl, rfl, _, he2⟩ := ih t (by rw [List.length_append] at hs; omega) _ _ hz
        refine ⟨by rw [valid_ch hc]; exact v, 92 :: (e ++ e2), t2, by rw [List.cons_append, List.append_assoc], by simp only [List.length_cons, List.length_append]; omega, by omega, fun u => ?_⟩
        rw [List.cons_append, List.append_assoc, unq_esc (he (e2 ++ u)), List.drop_left, he2]
        rfl
      rw [if_neg a2] at h
      by_cases hb : (charF (a :: r)).2 = 0 ∨ (charF (a :: r)).1 < 32
      · rw [if_pos hb] at h
        cases h
      rw [if_neg hb] at h
      obtain ⟨⟨z, i⟩, hz, h⟩ := Option.map_eq_some_iff.1 h
      simp only [Prod.mk.injEq] at h
      obtain ⟨rfl, rfl⟩ := h
      have h0 : (charF (a :: r)).2 ≠ 0 := fun e => hb (.inl e)
      obtain ⟨hs1, hs2, _⟩ := char_is h0
      have hcut := char_cut h0
      have hp := bytes_pos (charF (a :: r)).1
      obtain ⟨v, e2, t2, et, rfl, _, he2⟩ := ih (r.drop ((charF (a :: r)).2 - 1)) (by rw [List.length_drop]; omega) _ _ hz
      rw [et] at hcut
      have n34 : (charF (a :: r)).1 ≠ 34 := fun e => by
        rw [e] at hcut
        exact a1 (List.cons.inj hcut).1
      have n92 : (charF (a :: r)).1 ≠ 92 := fun e => by
        rw [e] at hcut
        exact a2 (List.cons.inj hcut).1
      refine ⟨by rw [valid_ch hs1]; exact v, bytesF (charF (a :: r)).1 ++ e2, t2, by rw [List.append_assoc]; exact hcut, by rw [List.length_append, hs2], by omega, fun u => ?_⟩
      rw [List.append_assoc, unq_ch hs1 (fun h => hb (.inr h)) n34 n92, he2, hs2]
      rfl
theorem unqF_cut {s x : List UInt8} {k : Nat} (h : unqF s = some (x, k)) : validF x = true ∧ 2 ≤ k ∧ k ≤ s.length ∧ ∀ u, unqF (s.take k ++ u) = some (x, k) := by
  match s with
  | [] => cases h
  | a :: r =>
    rw [unqF] at h
    by_cases a1 : a = 34
    · rw [if_pos a1] at h
      obtain ⟨⟨z, i⟩, hz, h⟩ := Option.map_eq_some_iff.1 h
      simp only [Prod.mk.injEq] at h
      obtain ⟨rfl, rfl⟩ := h
      obtain ⟨v, e, t, rfl, rfl, hp, he⟩ := unq_cut r.length r (Nat.le_refl _) _ _ hz
      refine ⟨v, by omega, by rw [List.length_cons, List.length_append]; omega, fun u => ?_⟩
      rw [Nat.add_comm, List.take_succ_cons, List.take_left, List.cons_append, unqF, if_pos a1, he u, Nat.add_comm]
      rfl
    · rw [if_neg a1] at h
      cases h
end Jt
end Go.Proofs.YtpakfjfkibphjaaGreatDoor
