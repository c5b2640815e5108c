/-
  JobjBack: what is set is got, what is dropped is not.
-/
import Derived.Test.YtfgflgifffjdgaaGreatDoorJoSmallW
import Derived.Test.YtfgflgifffjdgaaGreatDoorJsFew
namespace Go.Proofs.YtfgflgifffjdgaaGreatDoor
open Go.RowKit Sh Jt Js Jo
theorem few_short {L : List V} (h : fewF L = true) : L.length ≤ 80 ∧ Short 3000 L := by
  unfold fewF at h
  rw [Bool.and_eq_true, decide_eq_true_eq, decide_eq_true_eq] at h
  refine ⟨h.1, fun v hv => ?_⟩
  have := sumV_mem hv
  omega
theorem short_more {m k : Nat} {L : List V} (h : Short m L) (hm : m ≤ k) : Short k L := fun v hv => ⟨Nat.le_trans (h v hv).1 hm, Nat.le_trans (h v hv).2 hm⟩
theorem own_any {f : FuncId} {args : Array Value} {W : World} {L : List V} {n : Nat} (hn : L.length = n) (h : Calls Tryz.prog f args W fun e w' => ∃ v', e = .returned v' ∧ Hid (OwnVals w' W.heap.size v' L ∧ Below W.heap.size W w')) :
    Calls Tryz.prog f args W fun e w' => ∃ A k, e = .returned (.slice A n k) ∧ Hid (OwnVals w' W.heap.size (.slice A n k) L ∧ ValsAt w' A n k L ∧ Below W.heap.size W w') := by
  subst hn
  refine h.mono ?_
  rintro e w' ⟨v', rfl, H⟩
  obtain ⟨A, k, rfl, hv, -⟩ := H.out.1.vals
  exact ⟨A, k, rfl, Lib.hid ⟨H.out.1, hv, H.out.2⟩⟩
namespace Jo
theorem short_bump {m : Nat} {L : List V} (h : Short m L) (c : Int) : Short m (bump c L) := by
  match L, h with
  | [], _ => exact fun v hv => by cases hv
  | v :: r, h =>
    intro x hx
    rcases List.mem_cons.1 hx with rfl | hx
    · exact h v List.mem_cons_self
    · exact h x (List.mem_cons_of_mem _ hx)
theorem short_setF {m : Nat} {L M : List V} {key : List UInt8} (h : Short m L) (h2 : Short m M) (hk : key.length ≤ m) : Short m (setF L key M) := by
  unfold setF
  cases getA L 0 key with
  | none => exact short_app (short_bump h 1) (short_named h2 hk)
  | some p => exact short_app (short_take h p) (short_app (short_named h2 hk) (short_drop h _))
theorem short_setA {m : Nat} {L M : List V} {key : List UInt8} (h : Short m L) (h2 : Short m M) (hk : key.length ≤ m) : Short m (setA L key M) := by
  unfold setA fineF
  split
  · split
    · exact short_setF h h2 hk
    · exact fun v hv => by cases hv
  · exact fun v hv => by cases hv
theorem short_dropA {m : Nat} {L : List V} {key : List UInt8} (h : Short m L) : Short m (dropA L key) := by
  unfold dropA
  split
  · cases getA L 0 key with
    | none => exact h
    | some p => exact short_bump (short_app (short_take h p) (short_drop h _)) _
  · exact fun v hv => by cases hv
theorem setA_isO {L M : List V} {key : List UInt8} (h : 0 < (setA L key M).length) : isO L = true ∧ rightPF M = true := by
  unfold setA at h
  split at h
  next hc => exact hc
  next hc => exact absurd h (Nat.lt_irrefl _)
theorem dropA_pos {L : List V} {key : List UInt8} (h : isO L = true) : 0 < (dropA L key).length := by
  obtain ⟨P, hP⟩ := obj_is h
  cases hi : idxF key P with
  | none =>
    rw [hP.drop0 hi, hP.eq]
    exact Nat.succ_pos _
  | some j =>
    rw [hP.drop hi]
    exact Nat.succ_pos _
theorem cutA_len (L : List V) (z : Int) : (cutA L z).length ≤ L.length := by
  unfold cutA
  split
  · rw [named_len, List.length_take, List.length_drop]
    omega
  · exact Nat.zero_le _
end Jo
end Go.Proofs.YtfgflgifffjdgaaGreatDoor
