/-
  Layer 10 (JSON's strings and numbers), as plain functions: characters, what is quoted, what a text means; no program is named here.
-/
import Derived.Laws.Entries
namespace Go.Proofs.YtpakfjfkibphjaaGreatDoor
open Go
namespace Jt

/-- A byte that goes on a character. -/
def goes (b : UInt8) : Bool := decide (128 ≤ b.toNat) && decide (b.toNat ≤ 191)
theorem goes_is {b : UInt8} : goes b = true ↔ 128 ≤ b.toNat ∧ b.toNat ≤ 191 := by
  unfold goes
  rw [Bool.and_eq_true, decide_eq_true_eq, decide_eq_true_eq]
def two (a b : UInt8) : Nat := (a.toNat - 192) * 64 + (b.toNat - 128)
def three (a b c : UInt8) : Nat := ((a.toNat - 224) * 64 + (b.toNat - 128)) * 64 + (c.toNat - 128)
def four (a b c d : UInt8) : Nat := (((a.toNat - 240) * 64 + (b.toNat - 128)) * 64 + (c.toNat - 128)) * 64 + (d.toNat - 128)
def scalar (n : Nat) : Bool := decide (n < 55296) || (decide (57344 ≤ n) && decide (n ≤ 1114111))
theorem scalar_is {n : Nat} : scalar n = true ↔ n < 55296 ∨ 57344 ≤ n ∧ n ≤ 1114111 := by
  unfold scalar
  rw [Bool.or_eq_true, Bool.and_eq_true, decide_eq_true_eq, decide_eq_true_eq, decide_eq_true_eq]
def char2 (a : UInt8) : List UInt8 → Nat × Nat
  | b :: _ => if goes b = true ∧ 128 ≤ two a b then (two a b, 2) else (0, 0)
  | [] => (0, 0)
def char3 (a : UInt8) : List UInt8 → Nat × Nat
  | b :: c :: _ => if goes b = true ∧ goes c = true ∧ 2048 ≤ three a b c ∧ scalar (three a b c) = true then (three a b c, 3) else (0, 0)
  | _ => (0, 0)
def char4 (a : UInt8) : List UInt8 → Nat × Nat
  | b :: c :: d :: _ => if goes b = true ∧ goes c = true ∧ goes d = true ∧ 65536 ≤ four a b c d ∧ scalar (four a b c d) = true then (four a b c d, 4) else (0, 0)
  | _ => (0, 0)
/-- The character that bytes begin with, and how many bytes it has; 0: it is none. -/
def charF : List UInt8 → Nat × Nat
  | [] => (0, 0)
  | a :: r =>
    if a.toNat < 128 then (a.toNat, 1)
    else if 192 ≤ a.toNat ∧ a.toNat < 224 then char2 a r
    else if 224 ≤ a.toNat ∧ a.toNat < 240 then char3 a r
    else if 240 ≤ a.toNat ∧ a.toNat < 248 then char4 a r
    else (0, 0)
/-- A character's bytes. -/
def bytesF (n : Nat) : List UInt8 :=
  if n < 128 then [UInt8.ofNat n]
  else if n < 2048 then [UInt8.ofNat (192 + n / 64), UInt8.ofNat (128 + n % 64)]
  else if n < 65536 then [UInt8.ofNat (224 + n / 4096), UInt8.ofNat (128 + n / 64 % 64), UInt8.ofNat (128 + n % 64)]
  else [UInt8.ofNat (240 + n / 262144), UInt8.ofNat (128 + n / 4096 % 64), UInt8.ofNat (128 + n / 64 % 64), UInt8.ofNat (128 + n % 64)]
theorem bytes_pos (n : Nat) : 0 < (bytesF n).length := by
  unfold bytesF
  split
  · exact Nat.succ_pos _
  split
  · exact Nat.succ_pos _
  split
  · exact Nat.succ_pos _
  · exact Nat.succ_pos _
theorem ofN (b : UInt8) (n : Nat) (h : n = b.toNat) : UInt8.ofNat n = b := by
  rw [h]
  exact UInt8.ofNat_toNat
theorem toN (n : Nat) (h : n < 256) : (UInt8.ofNat n).toNat = n := by
  rw [UInt8.toNat_ofNat']
  omega
/-- Bytes begin with a character's. -/
theorem char_bytes {n : Nat} (h : scalar n = true) (t : List UInt8) : charF (bytesF n ++ t) = (n, (bytesF n).length) := by
  have h := scalar_is.1 h
  unfold bytesF
  split
  · show charF (UInt8.ofNat n :: t) = (n, 1)
    rw [charF]
    rw [toN n (by omega), if_pos (by assumption)]
  split
  · show charF (UInt8.ofNat (192 + n / 64) :: UInt8.ofNat (128 + n % 64) :: t) = (n, 2)
    have e1 := toN (192 + n / 64) (by omega)
    have e2 := toN (128 + n % 64) (by omega)
    have e : two (UInt8.ofNat (192 + n / 64)) (UInt8.ofNat (128 + n % 64)) = n := by
      unfold two
      rw [e1, e2]
      omega
    rw [charF]
    rw [if_neg (by omega), if_pos (by omega), char2, e, if_pos ⟨goes_is.2 (by omega), by omega⟩]
  split
  · show charF (UInt8.ofNat (224 + n / 4096) :: UInt8.ofNat (128 + n / 64 % 64) :: UInt8.ofNat (128 + n % 64) :: t) = (n, 3)
    have e1 := toN (224 + n / 4096) (by omega)
    have e2 := toN (128 + n / 64 % 64) (by omega)
    have e3 := toN (128 + n % 64) (by omega)
    have e : three (UInt8.ofNat (224 + n / 4096)) (UInt8.ofNat (128 + n / 64 % 64)) (UInt8.ofNat (128 + n % 64)) = n := by
      unfold three
      rw [e1, e2, e3]
      omega
    rw [charF]
    rw [if_neg (by omega), if_neg (by omega), if_pos (by omega), char3, e, if_pos ⟨goes_is.2 (by omega), goes_is.2 (by omega), by omega, scalar_is.2 h⟩]
  · show charF (UInt8.ofNat (240 + n / 262144) :: UInt8.ofNat (128 + n / 4096 % 64) :: UInt8.ofNat (128 + n / 64 % 64) :: UInt8.ofNat (128 + n % 64) :: t) = (n, 4)
    have e1 := toN (240 + n / 262144) (by omega)
    have e2 := toN (128 + n / 4096 % 64) (by omega)
    have e3 := toN (128 + n / 64 % 64) (by omega)
    have e4 := toN (128 + n % 64) (by omega)
    have e : four (UInt8.ofNat (240 + n / 262144)) (UInt8.ofNat (128 + n / 4096 % 64)) (UInt8.ofNat (128 + n / 64 % 64)) (UInt8.ofNat (128 + n % 64)) = n := by
      unfold four
      rw [e1, e2, e3, e4]
      omega
    rw [charF]
    rw [if_neg (by omega), if_neg (by omega), if_neg (by omega), if_pos (by omega), char4, e, if_pos ⟨goes_is.2 (by omega), goes_is.2 (by omega), goes_is.2 (by omega), by omega, scalar_is.2 h⟩]
/-- What begins with a character is its bytes, and what is behind. -/
def ChIs (s : List UInt8) (p : Nat × Nat) : Prop := scalar p.1 = true ∧ p.2 = (bytesF p.1).length ∧ ∃ t, s = bytesF p.1 ++ t
theorem char2_ok {a : UInt8} {r : List UInt8} (h2 : 192 ≤ a.toNat ∧ a.toNat < 224) (h : (char2 a r).2 ≠ 0) : ChIs (a :: r) (char2 a r) := by
  match r with
  | [] => exact absurd rfl h
  | b :: t =>
    rw [char2] at h ⊢
    by_cases h3 : goes b = true ∧ 128 ≤ two a b
    · rw [if_pos h3]
      have g := goes_is.1 h3.1
      have h4 := h3.2
      unfold two at h4
      have e : bytesF (two a b) = [a, b] := by
        unfold bytesF two
        rw [if_neg (by omega), if_pos (by omega), ofN a _ (by omega), ofN b _ (by omega)]
      exact ⟨scalar_is.2 (by show two a b < 55296 ∨ _; unfold two; omega), by rw [e]; rfl, t, by rw [e]; rfl⟩
    · rw [if_neg h3] at h
      exact absurd rfl h
theorem char3_ok {a : UInt8} {r : List UInt8} (h2 : 224 ≤ a.toNat ∧ a.toNat < 240) (h : (char3 a r).2 ≠ 0) : ChIs (a :: r) (char3 a r) := by
  match r with
  | [] => exact absurd rfl h
  | [_] => exact absurd rfl h
  | b :: c :: t =>
    rw [char3] at h ⊢
    by_cases h3 : goes b = true ∧ goes c = true ∧ 2048 ≤ three a b c ∧ scalar (three a b c) = true
    · rw [if_pos h3]
      have g1 := goes_is.1 h3.1
      have g2 := goes_is.1 h3.2.1
      have h4 := h3.2.2.1
      unfold three at h4
      have e : bytesF (three a b c) = [a, b, c] := by
        unfold bytesF three
        rw [if_neg (by omega), if_neg (by omega), if_pos (by omega), ofN a _ (by omega), ofN b _ (by omega), ofN c _ (by omega)]
      exact ⟨h3.2.2.2, by rw [e]; rfl, t, by rw [e]; rfl⟩
    · rw [if_neg h3] at h
      exact absurd rfl h
theorem char4_ok {a : UInt8} {r : List UInt8} (h2 : 240 ≤ a.toNat ∧ a.toNat < 248) (h : (char4 a r).2 ≠ 0) : ChIs (a :: r) (char4 a r) := by
  match r with
  | [] => exact absurd rfl h
  | [_] => exact absurd rfl h
  | [_, _] => exact absurd rfl h
  | b :: c :: d :: t =>
    rw [char4] at h ⊢
    by_cases h3 : goes b = true ∧ goes c = true ∧ goes d = true ∧ 65536 ≤ four a b c d ∧ scalar (four a b c d) = true
    · rw [if_pos h3]
      have g1 := goes_is.1 h3.1
      have g2 := goes_is.1 h3.2.1
      have g3 := goes_is.1 h3.2.2.1
      have h4 := h3.2.2.2.1
      have h5 := scalar_is.1 h3.2.2.2.2
      unfold four at h4 h5
      have e : bytesF (four a b c d) = [a, b, c, d] := by
        unfold bytesF four
        rw [if_neg (by omega), if_neg (by omega), if_neg (by omega), ofN a _ (by omega), ofN b _ (by omega), ofN c _ (by omega), ofN d _ (by omega)]
      exact ⟨h3.2.2.2.2, by rw [e]; rfl, t, by rw [e]; rfl⟩
    · rw [if_neg h3] at h
      exact absurd rfl h
theorem char_is {s : List UInt8} (h : (charF s).2 ≠ 0) : ChIs s (charF s) := by
  match s with
  | [] => exact absurd rfl h
  | a :: r =>
    rw [charF] at h ⊢
    by_cases h1 : a.toNat < 128
    · rw [if_pos h1]
      have e : bytesF a.toNat = [a] := by
        unfold bytesF
        rw [if_pos h1, ofN a _ rfl]
      exact ⟨scalar_is.2 (by show a.toNat < 55296 ∨ _; omega), by rw [e]; rfl, r, by rw [e]; rfl⟩
    rw [if_neg h1] at h ⊢
    by_cases h2 : 192 ≤ a.toNat ∧ a.toNat < 224
    · rw [if_pos h2] at h ⊢
      exact char2_ok h2 h
    rw [if_neg h2] at h ⊢
    by_cases h3 : 224 ≤ a.toNat ∧ a.toNat < 240
    · rw [if_pos h3] at h ⊢
      exact char3_ok h3 h
    rw [if_neg h3] at h ⊢
    by_cases h4 : 240 ≤ a.toNat ∧ a.toNat < 248
    · rw [if_pos h4] at h ⊢
      exact char4_ok h4 h
    rw [if_neg h4] at h
    exact absurd rfl h
/-- Whether bytes begin with a character does not hang on what is behind it. -/
theorem char_app {s : List UInt8} (h : (charF s).2 ≠ 0) (t : List UInt8) : charF (s ++ t) = charF s := by
  obtain ⟨h1, h2, u, h3⟩ := char_is h
  have e := char_bytes h1 (u ++ t)
  rw [← List.append_assoc, ← h3] at e
  rw [e, ← h2]
end Jt
end Go.Proofs.YtpakfjfkibphjaaGreatDoor
