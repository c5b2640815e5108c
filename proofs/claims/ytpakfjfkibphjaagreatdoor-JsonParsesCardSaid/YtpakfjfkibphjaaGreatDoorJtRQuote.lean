/-
  The reference's Quote and Valid.
-/
import Derived.Test.YtpakfjfkibphjaaGreatDoorJtRChar
import Derived.Test.YtpakfjfkibphjaaGreatDoorJtRBytes
namespace Go.Proofs.YtpakfjfkibphjaaGreatDoor
open Go.RowKit Sh
namespace Jt
theorem sb_from' (l : List UInt8) (k n : Nat) (h : n = l.length) : (sb l).extract k n = sb (l.drop k) := by
  subst h
  have := sb_cut l k l.length
  rw [List.take_length] at this
  exact this
theorem sb_upto (l : List UInt8) (k : Nat) : (sb l).extract 0 k = sb (l.take k) := by
  have := sb_cut l 0 k
  rw [List.drop_zero] at this
  exact this
theorem drop_tail (a : UInt8) (r : List UInt8) (k : Nat) (h : 1 ≤ k) : (a :: r).drop k = r.drop (k - 1) := by
  obtain ⟨m, rfl⟩ : ∃ m, k = m + 1 := ⟨k - 1, by omega⟩
  rfl
theorem take_char {a : UInt8} {r : List UInt8} (h : (charF (a :: r)).2 ≠ 0) : (a :: r).take (charF (a :: r)).2 = bytesF (charF (a :: r)).1 := by
  obtain ⟨_, h2, t, h3⟩ := char_is h
  rw [h2]
  conv => lhs; arg 2; rw [h3]
  rw [List.take_left]
theorem char_len {a : UInt8} {r : List UInt8} (h : (charF (a :: r)).2 ≠ 0) : 1 ≤ (charF (a :: r)).2 ∧ (charF (a :: r)).2 ≤ (a :: r).length := by
  obtain ⟨_, h2, t, h3⟩ := char_is h
  have hl := congrArg List.length h3
  rw [List.length_append] at hl
  omega
theorem valid_on {a : UInt8} {r : List UInt8} (h : (charF (a :: r)).2 ≠ 0) : validF (a :: r) = validF ((a :: r).drop (charF (a :: r)).2) := by
  rw [validF, if_neg h, drop_tail a r _ (char_len h).1]
theorem quote_on {a : UInt8} {r : List UInt8} (h : (charF (a :: r)).2 ≠ 0) : quoteB (a :: r) = (if (charF (a :: r)).1 < 128 then oneF (charF (a :: r)).1 else bytesF (charF (a :: r)).1) ++ quoteB ((a :: r).drop (charF (a :: r)).2) := by
  conv => lhs; rw [quoteB, if_neg h]
  rw [drop_tail a r _ (char_len h).1]
theorem app_ok {a b : List UInt8} (h : a.length + b.length ≤ 9223372036854775807) : ¬ 9223372036854775807 < (sb a).size + (sb b).size := by
  rw [sb_size, sb_size]
  omega
end Jt
open Jt
end Go.Proofs.YtpakfjfkibphjaaGreatDoor
