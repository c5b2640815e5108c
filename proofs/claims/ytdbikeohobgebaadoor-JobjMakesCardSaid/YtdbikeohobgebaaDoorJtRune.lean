/-
  strings.IndexRune among the characters that have a letter.
-/
import Derived.Test.YtdbikeohobgebaaDoorJtStr
import Derived.WalkMore
namespace Go.Proofs.YtdbikeohobgebaaDoor
open Go.RowKit Sh
namespace Jt
theorem marks_low : ∀ (i : Nat) (h : i < marks.length), (marks[i]).toNat < 128 := by decide
theorem marks_dec {i : Nat} (h : i < (sb marks).size) : ∃ c, c < 128 ∧ Utf8.decode (sb marks) i = (c, 1) := by
  have h7 : i < marks.length := h
  have hl := marks_low i h7
  refine ⟨(marks[i]).toNat, hl, ?_⟩
  rw [dec_at marks h7, charF, if_pos hl]
  rfl
theorem idx_no {l : List UInt8} {c : UInt8} (h : ∀ x ∈ l, x ≠ c) : Lib.indexByte l c = -1 := by
  induction l with
  | nil => rfl
  | cons a r ih =>
    rw [Lib.indexByte, beq_eq_false_iff_ne.2 (h a (List.mem_cons_self ..)), ih (fun x hx => h x (List.mem_cons_of_mem _ hx))]
    rfl
/-- A character of more than one byte ends in a byte that goes on. -/
theorem bytes_last {n : Nat} (hn : scalar n = true) (h : 128 ≤ n) : ∃ m, m + 1 = (bytesF n).length ∧ 1 ≤ m ∧ m ≤ 3 ∧ ∃ c, (bytesF n)[m]? = some c ∧ 128 ≤ c.toNat := by
  have hs := scalar_is.1 hn
  unfold bytesF
  rw [if_neg (by omega)]
  split
  · exact ⟨1, rfl, Nat.le_refl _, by omega, _, rfl, by rw [toN _ (by omega)]; omega⟩
  split
  · exact ⟨2, rfl, by omega, by omega, _, rfl, by rw [toN _ (by omega)]; omega⟩
  · exact ⟨3, rfl, by omega, by omega, _, rfl, by rw [toN _ (by omega)]; omega⟩
theorem valid_is {n : Nat} (hn : scalar n = true) : Lib.validRune (n : Int) = true := by
  have hs := scalar_is.1 hn
  unfold Lib.validRune
  simp
  omega
end Jt
open Jt
end Go.Proofs.YtdbikeohobgebaaDoor
