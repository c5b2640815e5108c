/-
  Keys as a set (as in layer 11; no reader is named here).
-/
import Derived.Test.YtdbikeohobgebaaDoorJsMem
import Derived.Maps.OwnSet
namespace Go.Proofs.YtdbikeohobgebaaDoor
open Go.RowKit Go.Maps Go.WideMaps Sh Jt Js
theorem sb_nil : sb [] = ⟨#[]⟩ := rfl
namespace Js
/-- A set of Keys. -/
def keyL (k : List UInt8) : Lit := .string k
def keySet (ks : List (List UInt8)) : DataW Unit := setOf (.agg []) (ks.reverse.map keyL)
theorem keySet_nil : keySet [] = .map [] := rfl
theorem keySet_cons (k : List UInt8) (ks : List (List UInt8)) : keySet (k :: ks) = (keySet ks).put (keyL k) (.agg []) := by
  unfold keySet
  rw [List.reverse_cons, List.map_append, List.map_singleton, setOf_snoc]
theorem keySet_has (k : List UInt8) (ks : List (List UInt8)) : Maps.has (keySet ks) (keyL k) = decide (k ∈ ks) := by
  unfold keySet
  rw [has_setOf _ _ _ (fun x hx => by
    obtain ⟨p, _, rfl⟩ := List.mem_map.1 hx
    trivial)]
  rw [Bool.eq_iff_iff, List.any_eq_true, decide_eq_true_iff]
  constructor
  · rintro ⟨y, hy, h⟩
    obtain ⟨p, hp, rfl⟩ := List.mem_map.1 hy
    have : p = k := by simpa [keyL, Lit.sameKey] using h
    rw [← this]
    exact List.mem_reverse.1 hp
  · intro h
    exact ⟨keyL k, List.mem_map.2 ⟨k, List.mem_reverse.2 h, rfl⟩, by simp [keyL, Lit.sameKey]⟩
theorem ownsMap_block {H : Type} {P : Program} {k : TypeId} {R : Value → Option (DataW H × List MemPlace)} {w w' : World} {b n : Nat} {D : DataW H} (h : w.ownsMap P k R b n D) (e : w'.heap[b]? = w.heap[b]?) : w'.ownsMap P k R b n D := by
  unfold World.ownsMap at *
  rw [e]
  exact h
end Js
theorem kept_grown {w w' : World} {m : Nat} (h : w.grownBy w' (some m)) : Kept w w' (· = m) := ⟨h.os, h.tape, h.output, h.size, fun k hk hn => h.block k hk (fun e => hn (Option.some.inj e))⟩
theorem js_law : Keyed Tryd.prog 9 := string_keyed Tryd.underlying9
end Go.Proofs.YtdbikeohobgebaaDoor
