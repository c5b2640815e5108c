/-
  A slice of slices of bytes that came in, opened, and how long each may be.
-/
import Derived.Test.YtjejldfpehaacaaDoorRowsOpen
import Derived.SizedLaws
namespace Go.Proofs.YtjejldfpehaacaaDoor
set_option maxRecDepth 100000
open Go.ChangeShapes Go.WideShapes Go.ChangeAt Go.WideMaps Go.WideElems Go.RowKit Go.Deep Sh

theorem weights_among {H : Type} {P : Program} {e : TypeId} : ∀ {l : List (DataW H)} {d : DataW H}, d ∈ l → ∀ n ∈ d.weights P e, n ∈ DataW.weightsAll P e l
  | d' :: r, d, hd, n, hn => by
    simp only [DataW.weightsAll, List.mem_append]
    rcases List.mem_cons.1 hd with rfl | h
    · exact Or.inl hn
    · exact Or.inr (weights_among h n hn)
theorem sized_in {H : Type} {P : Program} {ts : List TypeId} {ds : List (DataW H)} (h : (DataW.weightsEach P ts ds).all (· ≤ reachBytes) = true) {j : Nat} {t e q : TypeId} {elems spare e' sp' : List (DataW H)}
    (ht : ts[j]? = some t) (hd : ds[j]? = some (.slice elems spare)) (hu : P.underlying t = some (.slice e)) (hu2 : P.underlying e = some (.slice q)) (hx : DataW.slice e' sp' ∈ elems) : (e'.length + sp'.length) * P.bytesOf q ≤ reachBytes := by
  refine of_decide_eq_true (List.all_eq_true.1 h _ (DataW.weights_mem_each ht hd _ ?_))
  simp only [DataW.weights, hu, List.mem_cons, List.mem_append]
  exact Or.inr (Or.inl (weights_among hx _ (by simp [DataW.weights, hu2])))

theorem open_rows_sized {H : Type} {enc : TypeId × Value → H} {W : World} {base : Nat} {v : Value} {d : DataW H} {p : List MemPlace} (hv : Value.okWide Tryd.prog W .any base 22 v)
    (h : DataW.Trod enc Tryd.prog W 0 (fun _ => true) true 22 v d p) {ts : List TypeId} {ds : List (DataW H)} (hsz : (DataW.weightsEach Tryd.prog ts ds).all (· ≤ reachBytes) = true) {j : Nat} (hts : ts[j]? = some 22) (hds : ds[j]? = some d) : ∃ (A : Option Addr) (n c : Nat) (X : Nat → Option Addr) (C : Nat → Nat) (B : Nat → List UInt8), v = .slice A n c ∧ n ≤ maxLen ∧ RowsAt W A n X C B ∧ ∀ i, i < n → (B i).length ≤ 140737488351232 := by
  obtain ⟨a0, len, cap, rfl⟩ := okWide_slice Tryd.underlying22 hv
  obtain ⟨fuel, hf⟩ := h
  rcases Go.Deep.open_int_rows Tryd.underlying22 Tryd.underlying29 Tryd.underlying5 (by kernel_rfl) cells1 hf with ⟨hcs, _⟩ | ⟨a, len', cap', A, L, C, Z, hcs, _, hl, hm, hx, hr⟩
  · simp [Value.cells] at hcs
    obtain ⟨rfl, rfl, rfl⟩ := hcs
    exact ⟨none, 0, 0, fun _ => none, fun _ => 0, fun _ => [], rfl, Nat.zero_le _, ⟨fun h => absurd h (by decide), fun i hi => absurd hi (by omega), fun i hi => absurd hi (by omega), fun i hi => absurd hi (by omega)⟩, fun i hi => absurd hi (by omega)⟩
  · simp [Value.cells] at hcs
    obtain ⟨rfl, rfl, rfl⟩ := hcs
    have hBl : ∀ i, i < len → (((Z i).take (L i)).map fun z => UInt8.ofNat z.toNat).length = L i := fun i hi => by
      obtain ⟨_, h2, _, h4, _⟩ := hr i (by omega)
      rw [List.length_map, List.length_take]
      omega
    refine ⟨some a, len, cap, A, C, fun i => ((Z i).take (L i)).map fun z => UInt8.ofNat z.toNat, rfl, by omega, ⟨fun hn => ?_, fun i hi b o e => ?_, fun i hi => ?_, fun i hi => (hr i (by omega)).2.2.2.2.2.1⟩, fun i hi => ?_⟩
    · have h0 := (hr 0 (by omega)).1
      obtain ⟨b, o, spot⟩ := a
      have hs : spot = none := by simpa [Addr.add] using World.cell?_spot h0
      subst hs
      exact ⟨b, o, rfl, World.block_lt_of_cell? W _ h0⟩
    · simp only [Option.some.injEq] at e
      subst e
      rw [hBl i hi, ← Go.WideShapes.add_plain]
      exact (hr i (by omega)).1
    · obtain ⟨_, h2, h3, h4, h5, h6, h7⟩ := hr i (by omega)
      refine ⟨rfl, by rw [hBl i hi]; exact h2, fun hpos => ?_⟩
      rw [hBl i hi] at hpos
      cases hA : A i with
      | none => have := h6 hA; omega
      | some a' =>
        obtain ⟨_, h8⟩ := h7 a' hA
        obtain ⟨b, off, rfl, hc⟩ := ints_at (zs := Z i) (fun c hc => h8 c (by omega)) (by omega)
        refine ⟨b, off, rfl, World.block_lt_of_cell? W _ (hc 0 (by omega)), fun j u hj => ?_⟩
        have hjl : j < L i := by
          have := (List.getElem?_eq_some_iff.1 hj).1
          rw [List.length_map, hBl i hi] at this
          exact this
        have hjz : j < (Z i).length := by omega
        rw [hc j hjz, ← hj]
        have hw := h5 ((Z i)[j]) (List.getElem_mem hjz)
        have hb : 0 ≤ (Z i)[j] ∧ (Z i)[j] < 256 := by
          simp [Lit.wf, IntKind.min, IntKind.max, IntKind.signed, IntKind.bits] at hw
          omega
        have e : n8 (UInt8.ofNat (Z i)[j].toNat) = (Z i)[j] := by
          unfold n8
          rw [UInt8.toNat_ofNat']
          omega
        simp [List.getD, hjz, hjl, v8, e]
    · rw [hBl i hi]
      obtain ⟨_, h2, _, h4, _, h6, _⟩ := hr i (by omega)
      simp only [Prod.mk.injEq] at hx
      cases hA : A i with
      | none => have := h6 hA; omega
      | some a' =>
        have hmem : intRow (H := H) .u8 (A i) (L i) (Z i) ∈ (List.range len).map fun r => intRow .u8 (A r) (L r) (Z r) := by
          simp only [List.mem_map, List.mem_range]
          exact ⟨i, hi, rfl⟩
        have e : intRow (H := H) .u8 (A i) (L i) (Z i) = .slice (lits .u8 ((Z i).take (L i))) (lits .u8 ((Z i).drop (L i))) := by rw [hA]; rfl
        rw [e] at hmem
        have := sized_in hsz hts (by rw [hds, hx.1]) Tryd.underlying22 Tryd.underlying29 hmem
        rw [show Tryd.prog.bytesOf 5 = 1 by kernel_rfl] at this
        simp only [lits, List.length_map, List.length_take, List.length_drop] at this
        unfold reachBytes at this
        omega
end Go.Proofs.YtjejldfpehaacaaDoor
