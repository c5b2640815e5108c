/-
  More words on what a call may have changed.
-/
import Derived.Test.YtjejldfpehaacaaDoorMem
namespace Go.Proofs.YtjejldfpehaacaaDoor
open Go Go.RowKit

theorem kept_stored {w1 w2 : World} {o : Obj} (K2 : Kept (w1.alloc o) w2 (· = w1.heap.size)) : Kept w1 w2 (fun _ => False) :=
  ⟨K2.os, K2.tape, K2.output, by have := K2.size; simp at this; omega, fun i hi _ => (K2.block i (by simp; omega) (by omega)).trans (Below.heap_alloc _ _ _ hi)⟩
theorem kept_trans {a b c : World} (h : Kept a b (fun _ => False)) (k : Kept b c (fun _ => False)) : Kept a c (fun _ => False) := h.trans k
theorem kept_below {a b : World} (h : Below a.heap.size a b) : Kept a b (fun _ => False) := Kept.of_below h (fun _ hk _ => hk)
theorem kept_alloc (a : World) (o : Obj) : Kept a (a.alloc o) (fun _ => False) := (Kept.refl a _).alloc o
theorem kept_fresh {a b c : World} {g : Nat} (h : Kept a b (fun _ => False)) (k : Kept b c (· = g)) (hg : a.heap.size ≤ g) : Kept a c (fun _ => False) :=
  ⟨k.os.trans h.os, k.tape.trans h.tape, k.output.trans h.output, Nat.le_trans h.size k.size, fun i hi hn => (k.block i (Nat.lt_of_lt_of_le hi h.size) (by omega)).trans (h.block i hi hn)⟩
theorem kept_since {a b c : World} {S : Nat → Prop} (h : Kept a b (fun _ => False)) (k : Kept b c S) (hS : ∀ x, x < a.heap.size → ¬ S x) : Kept a c (fun _ => False) :=
  ⟨k.os.trans h.os, k.tape.trans h.tape, k.output.trans h.output, Nat.le_trans h.size k.size, fun i hi _ => (k.block i (Nat.lt_of_lt_of_le hi h.size) (hS i hi)).trans (h.block i hi (fun h => h))⟩
end Go.Proofs.YtjejldfpehaacaaDoor
