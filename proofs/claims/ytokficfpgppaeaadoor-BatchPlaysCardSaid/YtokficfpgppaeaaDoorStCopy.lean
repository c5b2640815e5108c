/-
  Copy of a store.
-/
import Derived.Test.YtokficfpgppaeaaDoorStPut
import Derived.Test.YtokficfpgppaeaaDoorStA
import Derived.StillTailTactics
namespace Go.Proofs.YtokficfpgppaeaaDoor
open Go Go.RowKit Go.Maps Sh

theorem OwnBytes.under' {w : World} {B : Nat} {v : Value} {bs : List UInt8} (h : OwnBytes w B v bs) : ∀ b, v.ownBlock = some b → b < w.heap.size ∧ B ≤ b := by
  obtain ⟨hl, ⟨rfl, _⟩ | ⟨g, cap, cur, rfl, hg, hh, _⟩⟩ := h
  · intro b e; cases e
  · intro b e
    simp only [Value.ownBlock, Option.some.injEq] at e
    subst e
    exact ⟨(Array.getElem?_eq_some_iff.1 hh).1, hg⟩

theorem makeMap_some (w : World) (n : Nat) : (Instr.makeMap 59 (some (.int .i64 (n : Int)))).run Tryd.prog w = .ok (.map (some w.heap.size)) (w.alloc (.map #[] 0)) := by
  simp [Instr.makeMap, run_underlying Tryd.underlying59, asInt, asIntOf, Result.andThen]

/-- The entries of the old store that have come, each with the slice that is its copy .. -/
def oldE (U : List ((Value × List UInt8) × Value)) : List (D32 × Value) := U.map fun u => (dg u.1.2, u.1.1)
def newT (U : List ((Value × List UInt8) × Value)) : List (Value × List UInt8) := U.map fun u => (u.2, u.1.2)

/-- What holds ahead of each round. -/
structure CopyAt (w wr : World) (mb r mc : Nat) (T : List (Value × List UInt8)) (U : List ((Value × List UInt8) × Value)) : Prop where
  rg : RangeAt wr mb r (entries T) (oldE U)
  map : MapAt wr mc (entries (newT U))
  own : ∀ u ∈ U, u.1 ∈ T ∧ OwnBytes wr w.heap.size u.2 u.1.2 ∧ ∀ b, u.2.ownBlock = some b → b ≠ mc ∧ b ≠ r
  kept : Kept w wr (fun _ => False)
  kr : w.heap.size ≤ r
  km : w.heap.size ≤ mc
  ne : mc ≠ r

/-- What Copy answers: a store of its own with the same blobs. -/
def CopyIs (w : World) (s mb : Nat) (T : List (Value × List UInt8)) (room : Nat) (Z : Nat → Prop) (e : Ending) (w' : World) : Prop :=
  ∃ c mc T', e = .returned (.pointer (some ⟨c, 0, none⟩)) ∧ Hid (StAt w' c mc T' room (fun k => Z k ∨ stZ c mc k)) ∧ Hid (StAt w' s mb T room (fun k => Z k ∨ stZ c mc k)) ∧ Hid ((T'.map (·.2)).Perm (T.map (·.2))) ∧ Hid (Kept w w' (fun _ => False)) ∧ Hid (w.heap.size ≤ c ∧ w.heap.size ≤ mc)

end Go.Proofs.YtokficfpgppaeaaDoor
