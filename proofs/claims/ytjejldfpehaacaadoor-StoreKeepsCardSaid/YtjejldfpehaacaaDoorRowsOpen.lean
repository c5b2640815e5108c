/-
  A slice of slices of bytes that came in, opened.
-/
import Derived.Test.YtjejldfpehaacaaDoorLawOpen
import Derived.Deep.Matrix
namespace Go.Proofs.YtjejldfpehaacaaDoor
set_option maxRecDepth 100000
open Go.ChangeShapes Go.WideShapes Go.ChangeAt Go.WideMaps Go.WideElems Go.RowKit Sh

/-- A slice of n slices of bytes, nil let in, outer and inner. -/
structure RowsAt (w : World) (A : Option Addr) (n : Nat) (X : Nat → Option Addr) (C : Nat → Nat) (B : Nat → List UInt8) : Prop where
  at_ : 0 < n → ∃ b o, A = some ⟨b, o, none⟩ ∧ b < w.heap.size
  cell : ∀ i, i < n → ∀ b o, A = some ⟨b, o, none⟩ → w.cell? ⟨b, o + i, none⟩ = some (.slice (X i) (B i).length (C i))
  row : ∀ i, i < n → BytesAt w (X i) (B i).length (C i) (B i)
  nil : ∀ i, i < n → X i = none → C i = 0
theorem RowsAt.kept {w w' : World} {A : Option Addr} {n : Nat} {X : Nat → Option Addr} {C : Nat → Nat} {B : Nat → List UInt8} (h : RowsAt w A n X C B) (k : Kept w w' (fun _ => False)) : RowsAt w' A n X C B :=
  ⟨fun hn => by
    obtain ⟨b, o, e, hl⟩ := h.at_ hn
    exact ⟨b, o, e, Nat.lt_of_lt_of_le hl k.size⟩, fun i hi b o e => k.cell (h.cell i hi b o e) (fun h => h), fun i hi => (h.row i hi).kept k (fun _ _ _ _ h => h), h.nil⟩

theorem open_rows {H : Type} {enc : TypeId × Value → H} {W : World} {base : Nat} {v : Value} {d : DataW H} {p : List MemPlace} (hv : Value.okWide Tryd.prog W .any base 22 v)
    (h : DataW.Trod enc Tryd.prog W 0 (fun _ => true) true 22 v d p) : ∃ (A : Option Addr) (n c : Nat) (X : Nat → Option Addr) (C : Nat → Nat) (B : Nat → List UInt8), v = .slice A n c ∧ n ≤ maxLen ∧ RowsAt W A n X C B ∧ ∀ i, i < n → (B i).length ≤ maxLen := by
  obtain ⟨a0, len, cap, rfl⟩ := okWide_slice Tryd.underlying22 hv
  obtain ⟨fuel, hf⟩ := h
  rcases Go.Deep.open_int_rows Tryd.underlying22 Tryd.underlying29 Tryd.underlying5 (by kernel_rfl) cells1 hf with ⟨hcs, _⟩ | ⟨a, len', cap', A, L, C, Z, hcs, _, hl, hm, _, hr⟩
  · simp [Value.cells] at hcs
    obtain ⟨rfl, rfl, rfl⟩ := hcs
    exact ⟨none, 0, 0, fun _ => none, fun _ => 0, fun _ => [], rfl, Nat.zero_le _, ⟨fun h => absurd h (by decide), fun i hi => absurd hi (by omega), fun i hi => absurd hi (by omega), fun i hi => absurd hi (by omega)⟩, fun i hi => absurd hi (by omega)⟩
  · simp [Value.cells] at hcs
    obtain ⟨rfl, rfl, rfl⟩ := hcs
    have hBl : ∀ i, i < len → (((Z i).take (L i)).map fun z => UInt8.ofNat z.toNat).length = L i := fun i hi => by
      obtain ⟨_, h2, _, h4, _⟩ := hr i (by omega)
      rw [List.length_map, List.length_take]
      omega
    refine ⟨some a, len, cap, A, C, fun i => ((Z i).take (L i)).map fun z => UInt8.ofNat z.toNat, rfl, by omega, ⟨fun hn => ?_, fun i hi b o e => ?_, fun i hi => ?_, fun i hi => (hr i (by omega)).2.2.2.2.2.1⟩, fun i hi => ?_⟩
    · have h0 := (hr 0 (by omega)).1
      obtain ⟨b, o, spot⟩ := a
      have hs : spot = none := by simpa [Addr.add] using World.cell?_spot h0
      subst hs
      exact ⟨b, o, rfl, World.block_lt_of_cell? W _ h0⟩
    · simp only [Option.some.injEq] at e
      subst e
      rw [hBl i hi, ← Go.WideShapes.add_plain]
      exact (hr i (by omega)).1
    · obtain ⟨_, h2, h3, h4, h5, h6, h7⟩ := hr i (by omega)
      refine ⟨rfl, by rw [hBl i hi]; exact h2, fun hpos => ?_⟩
      rw [hBl i hi] at hpos
      cases hA : A i with
      | none => have := h6 hA; omega
      | some a' =>
        obtain ⟨_, h8⟩ := h7 a' hA
        obtain ⟨b, off, rfl, hc⟩ := ints_at (zs := Z i) (fun c hc => h8 c (by omega)) (by omega)
        refine ⟨b, off, rfl, World.block_lt_of_cell? W _ (hc 0 (by omega)), fun j u hj => ?_⟩
        have hjl : j < L i := by
          have := (List.getElem?_eq_some_iff.1 hj).1
          rw [List.length_map, hBl i hi] at this
          exact this
        have hjz : j < (Z i).length := by omega
        rw [hc j hjz, ← hj]
        have hw := h5 ((Z i)[j]) (List.getElem_mem hjz)
        have hb : 0 ≤ (Z i)[j] ∧ (Z i)[j] < 256 := by
          simp [Lit.wf, IntKind.min, IntKind.max, IntKind.signed, IntKind.bits] at hw
          omega
        have e : n8 (UInt8.ofNat (Z i)[j].toNat) = (Z i)[j] := by
          unfold n8
          rw [UInt8.toNat_ofNat']
          omega
        simp [List.getD, hjz, hjl, v8, e]
    · rw [hBl i hi]
      obtain ⟨_, h2, h3, _⟩ := hr i (by omega)
      omega
end Go.Proofs.YtjejldfpehaacaaDoor
