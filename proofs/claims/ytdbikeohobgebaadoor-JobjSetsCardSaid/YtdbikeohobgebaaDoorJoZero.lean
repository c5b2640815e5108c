/-
  A value of the call's own is set to nothing.
-/
import Derived.Test.YtdbikeohobgebaaDoorJoBackW
import Derived.Deep.MidRow
namespace Go.Proofs.YtdbikeohobgebaaDoor
open Go.RowKit Sh Jt Js Jo
def zeroC : Array Value := #[.int .i64 0, .string ⟨#[]⟩, .string ⟨#[]⟩, .int .i64 0]
theorem zero_info : (Tryd.prog.info? 28).map (·.size) = some zeroC.size := by kernel_rfl
theorem zero_cells4 : zeroC.all (·.oneCell') = true := by simp [zeroC, Value.oneCell']
/-- One value is set to nothing. -/
theorem OwnVals.zero {w : World} {B g n c : Nat} {L : List V} (h : OwnVals w B (.slice (some ⟨g, 0, none⟩) n c) L) {i : Nat} (hi : i < L.length) :
    w.there g (i * 4) zeroC.size ∧ OwnVals (w.setCells g (i * 4) zeroC.toList) B (.slice (some ⟨g, 0, none⟩) n c) (L.set i ⟨0, [], [], 0⟩) ∧ Below B w (w.setCells g (i * 4) zeroC.toList) := by
  have h0 := h.set (i := i) (j := 0) hi (by decide) (x := .int .i64 0) (v := ⟨0, L[i].key, L[i].text, L[i].count⟩) rfl
  have h1 := h0.set (i := i) (j := 1) (by rw [List.length_set]; exact hi) (by decide) (x := .string (sb [])) (v := ⟨0, [], L[i].text, L[i].count⟩) (by rw [List.getElem_set_self]; rfl)
  rw [List.set_set] at h1
  have h2 := h1.set (i := i) (j := 2) (by rw [List.length_set]; exact hi) (by decide) (x := .string (sb [])) (v := ⟨0, [], [], L[i].count⟩) (by rw [List.getElem_set_self]; rfl)
  rw [List.set_set] at h2
  have h3 := h2.set (i := i) (j := 3) (by rw [List.length_set]; exact hi) (by decide) (x := .int .i64 0) (v := ⟨0, [], [], 0⟩) (by rw [List.getElem_set_self]; rfl)
  rw [List.set_set] at h3
  refine ⟨fun j hj => ⟨?_, h.unfrozen _⟩, h3, ?_⟩
  · obtain ⟨c0, c1, c2, c3⟩ := h.at_.1.cells hi
    rw [Nat.zero_add] at c0 c1 c2 c3
    match j, hj with
    | 0, _ => rw [Nat.add_zero, c0]; rfl
    | 1, _ => rw [c1]; rfl
    | 2, _ => rw [c2]; rfl
    | 3, _ => rw [c3]; rfl
  · exact (h.setBelow _ _).trans ((h0.setBelow _ _).trans ((h1.setBelow _ _).trans (h2.setBelow _ _)))
end Go.Proofs.YtdbikeohobgebaaDoor
