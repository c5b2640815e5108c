/-
  A digest's text with one other letter, as plain functions.
-/
import Derived.Test.YtknfpfhbplmffaaDoorDigFns
namespace Go.Proofs.YtknfpfhbplmffaaDoor
open Go
namespace Dg
/-- A digest's text with one other letter. -/
theorem letters (d : List UInt8) (hd : d.length = 32) (k : Nat) (hk : k < 71) (c : UInt8) (hne : (text d).getD k 0 ≠ c) :
    (parse ((text d).set k c)).isSome = (decide (6 < k) && decide (0 ≤ val c)) ∧ ∀ y, parse ((text d).set k c) = some y → y ≠ d := by
  have hl := text_length d
  have hkl : k < (text d).length := by omega
  have hat : ((text d).set k c).getD k 0 = c := by simp [List.getD, hkl]
  refine ⟨?_, fun y hy e => ?_⟩
  · have hp : pre.length = 7 := rfl
    by_cases h6 : 6 < k
    · rw [decide_eq_true h6, Bool.true_and]
      have e : (text d).set k c = pre ++ (pairs d).set (k - 7) c := by rw [text, List.set_append_right _ _ (by omega), hp]
      rw [e, parse_pre, if_pos (by rw [List.length_set, pairs_length]; omega)]
      by_cases hv : 0 ≤ val c
      · rw [decide_eq_true hv]
        obtain ⟨y, hy⟩ := unpair_some ((pairs d).set (k - 7) c) 32 (by rw [List.length_set, pairs_length]; omega) (fun x hx => by
          rcases List.mem_or_eq_of_mem_set hx with h | h
          · exact pairs_ok d x h
          · rw [h]; exact hv)
        rw [hy]; rfl
      · rw [decide_eq_false hv]
        cases h : unpair ((pairs d).set (k - 7) c) with
        | none => rfl
        | some y =>
          have h1 := pairs_unpair _ y h
          have hm : c ∈ pairs y := by
            rw [h1]
            exact List.mem_set (by rw [pairs_length]; omega) c
          exact absurd (pairs_ok y c hm) hv
    · rw [decide_eq_false h6, Bool.false_and]
      have hn : Lib.hasPrefix ((text d).set k c) pre ≠ true := by
        intro h
        obtain ⟨t, ht⟩ := (hasPrefix_iff _).1 h
        rw [ht] at hat
        apply hne
        rw [← hat, text]
        simp only [List.getD]
        rw [List.getElem?_append_left (by omega), List.getElem?_append_left (by omega)]
      rw [parse, if_neg (fun h => hn h.1)]
      rfl
  · have h := (parse_some hy).1
    rw [e] at h
    rw [← h] at hat
    exact hne hat
end Dg
end Go.Proofs.YtknfpfhbplmffaaDoor
