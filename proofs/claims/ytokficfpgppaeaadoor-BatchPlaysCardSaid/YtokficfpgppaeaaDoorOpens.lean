/-
  What every law's lifted proof wants: a slice of bytes that came in, opened; a law's post out of 'Below'.
-/
import Derived.Test.YtokficfpgppaeaaDoorRows
import Derived.Test.YtokficfpgppaeaaDoorShaC
import Derived.ProofKit
import Derived.LaidMore
import Derived.OpenShut
import Derived.Stop.Joined
import Derived.Lib.LaidTab
import Derived.ChangeMaps5
import Derived.Deep.Matrix
import Derived.SizedLaws
namespace Go.Proofs.YtokficfpgppaeaaDoor
open Go.ChangeShapes Go.WideShapes Go.ChangeAt Go.WideMaps Go.WideElems Go.RowKit Sh

set_option maxRecDepth 100000
theorem ownKnob_none : ownKnob Tryd.prog.godebug = none := by kernel_rfl
theorem laidOut_ok : laidOutB Tryd.prog = true := by kernel_rfl
theorem gRound : Tryd.prog.globalNamed "onionskin/sha.roundWords" = some 0 := by kernel_rfl
theorem tRound : (Tryd.prog.globals[0]?).map (·.type) = some 67 := by kernel_rfl
theorem laid_eq {H : Type} : (Rows.laid_onionskin_sha_roundWords : DataW H) = Lib.tabData .u32 (kt.map n32) := by kernel_rfl

/-- The table's cells, out of the row's condition. -/
theorem kt_of_laid {W : World} (h : laidMetH Tryd.prog [("onionskin/sha.roundWords", Rows.laid_onionskin_sha_roundWords)] W) : KT W := by
  rw [MakeChecks.laidMetH_plain _ _ _ (by kernel_rfl), laid_eq] at h
  have ht := Lib.tabIs_of_head gRound tRound Tryd.underlying67 Tryd.underlying66 (by kernel_rfl) (by kernel_rfl) h
  intro t hlt
  have hc := ht.cell gRound t (by rw [List.length_map]; exact hlt)
  rw [hc]
  have hl : t < kt.length := hlt
  simp [List.getD, hl, v32]

/-- The door's own heap meets the condition. -/
theorem door_met (os : Os) (args : Array Value) : laidMetH Tryd.prog [("onionskin/sha.roundWords", Rows.laid_onionskin_sha_roundWords)] ((World.doorLaid Tryd.prog 400 os).forCall (fun _ _ => 0) ⟨#[], args, []⟩).memory :=
  laidMetH_of_parts3 (fuel := 8) (laidMet_of_run' 8 (by kernel_rfl) (by kernel_rfl)) (by kernel_rfl) (by kernel_rfl)

/-- A slice of bytes that came in. -/
theorem open_bytes {H : Type} {enc : TypeId × Value → H} {W : World} {base : Nat} {v : Value} {d : DataW H} {p : List MemPlace} (hv : Value.okWide Tryd.prog W .any base 35 v)
    (h : DataW.Trod enc Tryd.prog W 0 (fun _ => true) true 35 v d p) : ∃ (A : Option Addr) (c : Nat) (bs : List UInt8), v = .slice A bs.length c ∧ BytesAt W A bs.length c bs ∧ c ≤ maxLen := by
  obtain ⟨a0, len, cap, rfl⟩ := okWide_slice Tryd.underlying35 hv
  obtain ⟨fuel, hf⟩ := h
  rcases open_ints Tryd.underlying35 Tryd.underlying5 cells1 hf with ⟨hcs, _⟩ | ⟨a, len', cap', zs, hcs, _, hl, hm, hz, _, hcell, hwz⟩
  · simp [Value.cells] at hcs
    obtain ⟨rfl, rfl, rfl⟩ := hcs
    exact ⟨none, 0, [], rfl, BytesAt.nil W, Nat.zero_le _⟩
  · simp [Value.cells] at hcs
    obtain ⟨rfl, rfl, rfl⟩ := hcs
    simp only [if_true] at hz
    have hlen : ((zs.take len).map fun z => UInt8.ofNat z.toNat).length = len := by rw [List.length_map, List.length_take]; omega
    refine ⟨some a, cap, (zs.take len).map fun z => UInt8.ofNat z.toNat, by rw [hlen], ⟨rfl, by rw [hlen]; exact hl, fun hpos => ?_⟩, hm⟩
    rw [hlen] at hpos
    obtain ⟨b, off, rfl, hc⟩ := ints_at hcell (by omega)
    refine ⟨b, off, rfl, World.block_lt_of_cell? W _ (hc 0 (by omega)), fun j u hj => ?_⟩
    have hjl : j < len := by
      have := (List.getElem?_eq_some_iff.1 hj).1
      rw [List.length_map, hlen] at this
      exact this
    have hjz : j < zs.length := by omega
    rw [hc j hjz, ← hj]
    have hw := hwz (zs[j]) (List.getElem_mem hjz)
    have hb : 0 ≤ zs[j] ∧ zs[j] < 256 := by
      simp [Lit.wf, IntKind.min, IntKind.max, IntKind.signed, IntKind.bits] at hw
      omega
    have e : n8 (UInt8.ofNat zs[j].toNat) = zs[j] := by
      unfold n8
      rw [UInt8.toNat_ofNat']
      omega
    simp [List.getD, hjz, hjl, v8, e]
end Go.Proofs.YtokficfpgppaeaaDoor

namespace Go.Proofs.YtokficfpgppaeaaDoor
set_option maxRecDepth 100000
open Go.ChangeShapes Go.WideShapes Go.ChangeAt Go.WideMaps Go.WideElems Go.RowKit Sh

def byteOfV : Value → UInt8
  | .int _ n => UInt8.ofNat n.toNat
  | _ => 0
theorem open_digest {H : Type} {enc : TypeId × Value → H} {W : World} {base : Nat} {v : Value} {d : DataW H} {p : List MemPlace} (hv : Value.okWide Tryd.prog W .any base 39 v)
    (h : DataW.Trod enc Tryd.prog W 0 (fun _ => true) true 39 v d p) : ∃ bs : List UInt8, v = .agg (bs.map v8).toArray ∧ bs.length = 32 := by
  have h1 := hv
  simp only [Value.okWide, Tryd.underlying39] at h1
  obtain ⟨cs, rfl, h2, _⟩ := h1
  rw [show Tryd.prog.cellsOf 39 = 32 from by kernel_rfl] at h2
  obtain ⟨fuel, hf⟩ := h
  obtain ⟨xs, m, rfl, _, hl, hx, he⟩ := DataW.trod_array Tryd.underlying39 hf
  refine ⟨cs.toList.map byteOfV, ?_, by simpa using h2⟩
  congr 1
  apply Array.ext
  · simp
  · intro i hi hj
    have hi32 : i < 32 := by omega
    have hq := he i hi32
    rw [show Tryd.prog.cellsOf 5 = 1 from by kernel_rfl, Nat.mul_one] at hq
    have hlist : (Value.agg cs).cells.toList = cs.toList := rfl
    rw [hlist, List.drop_eq_getElem_cons (by simpa using hi), List.take_succ_cons, List.take_zero, List.getElem?_eq_getElem (by omega)] at hq
    obtain ⟨a, ea, _, wa⟩ := DataW.trod_int Tryd.underlying5 hq
    simp only [List.cons.injEq, and_true] at ea
    have hb : 0 ≤ a ∧ a < 256 := by
      simp [Lit.wf, IntKind.min, IntKind.max, IntKind.signed, IntKind.bits] at wa
      omega
    simp only [Array.getElem_toList] at ea
    simp only [List.getElem_toArray, List.getElem_map, Array.getElem_toList, ea, byteOfV, v8, n8, UInt8.toNat_ofNat']
    congr 1
    omega
theorem open_str {H : Type} {enc : TypeId × Value → H} {W : World} {base : Nat} {v : Value} {d : DataW H} {p : List MemPlace} (hv : Value.okWide Tryd.prog W .any base 9 v)
    (h : DataW.Trod enc Tryd.prog W 0 (fun _ => true) true 9 v d p) : ∃ l : List UInt8, v = .string ⟨l.toArray⟩ ∧ l.length ≤ maxLen := by
  obtain ⟨s, rfl, _, _, hm⟩ := Go.ChangeMaps.open_string Tryd.underlying9 hv h
  obtain ⟨⟨l⟩⟩ := s
  exact ⟨l, rfl, hm⟩
theorem open_i64 {H : Type} {enc : TypeId × Value → H} {W : World} {base : Nat} {v : Value} {d : DataW H} {p : List MemPlace} (hv : Value.okWide Tryd.prog W .any base 3 v)
    (h : DataW.Trod enc Tryd.prog W 0 (fun _ => true) true 3 v d p) : ∃ n : Int, v = .int .i64 n ∧ -9223372036854775808 ≤ n ∧ n ≤ 9223372036854775807 := by
  obtain ⟨n, rfl, _, _, hw⟩ := open_int Tryd.underlying3 hv h
  simp [Lit.wf, IntKind.min, IntKind.max, IntKind.signed, IntKind.bits] at hw
  exact ⟨n, rfl, by omega, by omega⟩
theorem open_u8 {H : Type} {enc : TypeId × Value → H} {W : World} {base : Nat} {v : Value} {d : DataW H} {p : List MemPlace} (hv : Value.okWide Tryd.prog W .any base 5 v)
    (h : DataW.Trod enc Tryd.prog W 0 (fun _ => true) true 5 v d p) : ∃ x : UInt8, v = v8 x := by
  obtain ⟨n, rfl, _, _, hw⟩ := open_int Tryd.underlying5 hv h
  simp [Lit.wf, IntKind.min, IntKind.max, IntKind.signed, IntKind.bits] at hw
  refine ⟨UInt8.ofNat n.toNat, ?_⟩
  rw [v8, n8, UInt8.toNat_ofNat']
  congr 1
  omega
end Go.Proofs.YtokficfpgppaeaaDoor

namespace Go.Proofs.YtokficfpgppaeaaDoor
set_option maxRecDepth 100000
open Go.ChangeShapes Go.WideShapes Go.ChangeAt Go.WideMaps Go.WideElems Go.RowKit Sh

/-- A slice of bytes that came in. -/
theorem open_bytes2 {H : Type} {enc : TypeId × Value → H} {W : World} {base : Nat} {v : Value} {d : DataW H} {p : List MemPlace} (hv : Value.okWide Tryd.prog W .any base 35 v)
    (h : DataW.Trod enc Tryd.prog W 0 (fun _ => true) true 35 v d p) : ∃ (A : Option Addr) (c : Nat) (bs : List UInt8), v = .slice A bs.length c ∧ BytesAt W A bs.length c bs ∧ c ≤ maxLen ∧ (A = none → c = 0) := by
  obtain ⟨a0, len, cap, rfl⟩ := okWide_slice Tryd.underlying35 hv
  obtain ⟨fuel, hf⟩ := h
  rcases open_ints Tryd.underlying35 Tryd.underlying5 cells1 hf with ⟨hcs, _⟩ | ⟨a, len', cap', zs, hcs, _, hl, hm, hz, _, hcell, hwz⟩
  · simp [Value.cells] at hcs
    obtain ⟨rfl, rfl, rfl⟩ := hcs
    exact ⟨none, 0, [], rfl, BytesAt.nil W, Nat.zero_le _, fun _ => rfl⟩
  · simp [Value.cells] at hcs
    obtain ⟨rfl, rfl, rfl⟩ := hcs
    simp only [if_true] at hz
    have hlen : ((zs.take len).map fun z => UInt8.ofNat z.toNat).length = len := by rw [List.length_map, List.length_take]; omega
    refine ⟨some a, cap, (zs.take len).map fun z => UInt8.ofNat z.toNat, by rw [hlen], ⟨rfl, by rw [hlen]; exact hl, fun hpos => ?_⟩, hm, fun e => by cases e⟩
    rw [hlen] at hpos
    obtain ⟨b, off, rfl, hc⟩ := ints_at hcell (by omega)
    refine ⟨b, off, rfl, World.block_lt_of_cell? W _ (hc 0 (by omega)), fun j u hj => ?_⟩
    have hjl : j < len := by
      have := (List.getElem?_eq_some_iff.1 hj).1
      rw [List.length_map, hlen] at this
      exact this
    have hjz : j < zs.length := by omega
    rw [hc j hjz, ← hj]
    have hw := hwz (zs[j]) (List.getElem_mem hjz)
    have hb : 0 ≤ zs[j] ∧ zs[j] < 256 := by
      simp [Lit.wf, IntKind.min, IntKind.max, IntKind.signed, IntKind.bits] at hw
      omega
    have e : n8 (UInt8.ofNat zs[j].toNat) = zs[j] := by
      unfold n8
      rw [UInt8.toNat_ofNat']
      omega
    simp [List.getD, hjz, hjl, v8, e]
end Go.Proofs.YtokficfpgppaeaaDoor

namespace Go.Proofs.YtokficfpgppaeaaDoor
set_option maxRecDepth 100000
open Go.ChangeShapes Go.WideShapes Go.ChangeAt Go.WideMaps Go.WideElems Go.RowKit Sh

/-- A slice of n slices of bytes, nil let in, outer and inner. -/
structure RowsAt (w : World) (A : Option Addr) (n : Nat) (X : Nat → Option Addr) (C : Nat → Nat) (B : Nat → List UInt8) : Prop where
  at_ : 0 < n → ∃ b o, A = some ⟨b, o, none⟩ ∧ b < w.heap.size
  cell : ∀ i, i < n → ∀ b o, A = some ⟨b, o, none⟩ → w.cell? ⟨b, o + i, none⟩ = some (.slice (X i) (B i).length (C i))
  row : ∀ i, i < n → BytesAt w (X i) (B i).length (C i) (B i)
  nil : ∀ i, i < n → X i = none → C i = 0
theorem RowsAt.kept {w w' : World} {A : Option Addr} {n : Nat} {X : Nat → Option Addr} {C : Nat → Nat} {B : Nat → List UInt8} (h : RowsAt w A n X C B) (k : Kept w w' (fun _ => False)) : RowsAt w' A n X C B :=
  ⟨fun hn => by
    obtain ⟨b, o, e, hl⟩ := h.at_ hn
    exact ⟨b, o, e, Nat.lt_of_lt_of_le hl k.size⟩, fun i hi b o e => k.cell (h.cell i hi b o e) (fun h => h), fun i hi => (h.row i hi).kept k (fun _ _ _ _ h => h), h.nil⟩

theorem open_rows {H : Type} {enc : TypeId × Value → H} {W : World} {base : Nat} {v : Value} {d : DataW H} {p : List MemPlace} (hv : Value.okWide Tryd.prog W .any base 32 v)
    (h : DataW.Trod enc Tryd.prog W 0 (fun _ => true) true 32 v d p) : ∃ (A : Option Addr) (n c : Nat) (X : Nat → Option Addr) (C : Nat → Nat) (B : Nat → List UInt8), v = .slice A n c ∧ n ≤ maxLen ∧ RowsAt W A n X C B ∧ ∀ i, i < n → (B i).length ≤ maxLen := by
  obtain ⟨a0, len, cap, rfl⟩ := okWide_slice Tryd.underlying32 hv
  obtain ⟨fuel, hf⟩ := h
  rcases Go.Deep.open_int_rows Tryd.underlying32 Tryd.underlying35 Tryd.underlying5 (by kernel_rfl) cells1 hf with ⟨hcs, _⟩ | ⟨a, len', cap', A, L, C, Z, hcs, _, hl, hm, _, hr⟩
  · simp [Value.cells] at hcs
    obtain ⟨rfl, rfl, rfl⟩ := hcs
    exact ⟨none, 0, 0, fun _ => none, fun _ => 0, fun _ => [], rfl, Nat.zero_le _, ⟨fun h => absurd h (by decide), fun i hi => absurd hi (by omega), fun i hi => absurd hi (by omega), fun i hi => absurd hi (by omega)⟩, fun i hi => absurd hi (by omega)⟩
  · simp [Value.cells] at hcs
    obtain ⟨rfl, rfl, rfl⟩ := hcs
    have hBl : ∀ i, i < len → (((Z i).take (L i)).map fun z => UInt8.ofNat z.toNat).length = L i := fun i hi => by
      obtain ⟨_, h2, _, h4, _⟩ := hr i (by omega)
      rw [List.length_map, List.length_take]
      omega
    refine ⟨some a, len, cap, A, C, fun i => ((Z i).take (L i)).map fun z => UInt8.ofNat z.toNat, rfl, by omega, ⟨fun hn => ?_, fun i hi b o e => ?_, fun i hi => ?_, fun i hi => (hr i (by omega)).2.2.2.2.2.1⟩, fun i hi => ?_⟩
    · have h0 := (hr 0 (by omega)).1
      obtain ⟨b, o, spot⟩ := a
      have hs : spot = none := by simpa [Addr.add] using World.cell?_spot h0
      subst hs
      exact ⟨b, o, rfl, World.block_lt_of_cell? W _ h0⟩
    · simp only [Option.some.injEq] at e
      subst e
      rw [hBl i hi, ← Go.WideShapes.add_plain]
      exact (hr i (by omega)).1
    · obtain ⟨_, h2, h3, h4, h5, h6, h7⟩ := hr i (by omega)
      refine ⟨rfl, by rw [hBl i hi]; exact h2, fun hpos => ?_⟩
      rw [hBl i hi] at hpos
      cases hA : A i with
      | none => have := h6 hA; omega
      | some a' =>
        obtain ⟨_, h8⟩ := h7 a' hA
        obtain ⟨b, off, rfl, hc⟩ := ints_at (zs := Z i) (fun c hc => h8 c (by omega)) (by omega)
        refine ⟨b, off, rfl, World.block_lt_of_cell? W _ (hc 0 (by omega)), fun j u hj => ?_⟩
        have hjl : j < L i := by
          have := (List.getElem?_eq_some_iff.1 hj).1
          rw [List.length_map, hBl i hi] at this
          exact this
        have hjz : j < (Z i).length := by omega
        rw [hc j hjz, ← hj]
        have hw := h5 ((Z i)[j]) (List.getElem_mem hjz)
        have hb : 0 ≤ (Z i)[j] ∧ (Z i)[j] < 256 := by
          simp [Lit.wf, IntKind.min, IntKind.max, IntKind.signed, IntKind.bits] at hw
          omega
        have e : n8 (UInt8.ofNat (Z i)[j].toNat) = (Z i)[j] := by
          unfold n8
          rw [UInt8.toNat_ofNat']
          omega
        simp [List.getD, hjz, hjl, v8, e]
    · rw [hBl i hi]
      obtain ⟨_, h2, h3, _⟩ := hr i (by omega)
      omega
end Go.Proofs.YtokficfpgppaeaaDoor

namespace Go.Proofs.YtokficfpgppaeaaDoor
set_option maxRecDepth 100000
open Go.ChangeShapes Go.WideShapes Go.ChangeAt Go.WideMaps Go.WideElems Go.RowKit Go.Deep Sh

theorem weights_among {H : Type} {P : Program} {e : TypeId} : ∀ {l : List (DataW H)} {d : DataW H}, d ∈ l → ∀ n ∈ d.weights P e, n ∈ DataW.weightsAll P e l
  | d' :: r, d, hd, n, hn => by
    simp only [DataW.weightsAll, List.mem_append]
    rcases List.mem_cons.1 hd with rfl | h
    · exact Or.inl hn
    · exact Or.inr (weights_among h n hn)
theorem sized_in {H : Type} {P : Program} {ts : List TypeId} {ds : List (DataW H)} (h : (DataW.weightsEach P ts ds).all (· ≤ reachBytes) = true) {j : Nat} {t e q : TypeId} {elems spare e' sp' : List (DataW H)}
    (ht : ts[j]? = some t) (hd : ds[j]? = some (.slice elems spare)) (hu : P.underlying t = some (.slice e)) (hu2 : P.underlying e = some (.slice q)) (hx : DataW.slice e' sp' ∈ elems) : (e'.length + sp'.length) * P.bytesOf q ≤ reachBytes := by
  refine of_decide_eq_true (List.all_eq_true.1 h _ (DataW.weights_mem_each ht hd _ ?_))
  simp only [DataW.weights, hu, List.mem_cons, List.mem_append]
  exact Or.inr (Or.inl (weights_among hx _ (by simp [DataW.weights, hu2])))

theorem open_rows_sized {H : Type} {enc : TypeId × Value → H} {W : World} {base : Nat} {v : Value} {d : DataW H} {p : List MemPlace} (hv : Value.okWide Tryd.prog W .any base 32 v)
    (h : DataW.Trod enc Tryd.prog W 0 (fun _ => true) true 32 v d p) {ts : List TypeId} {ds : List (DataW H)} (hsz : (DataW.weightsEach Tryd.prog ts ds).all (· ≤ reachBytes) = true) {j : Nat} (hts : ts[j]? = some 32) (hds : ds[j]? = some d) : ∃ (A : Option Addr) (n c : Nat) (X : Nat → Option Addr) (C : Nat → Nat) (B : Nat → List UInt8), v = .slice A n c ∧ n ≤ maxLen ∧ RowsAt W A n X C B ∧ ∀ i, i < n → (B i).length ≤ 140737488351232 := by
  obtain ⟨a0, len, cap, rfl⟩ := okWide_slice Tryd.underlying32 hv
  obtain ⟨fuel, hf⟩ := h
  rcases Go.Deep.open_int_rows Tryd.underlying32 Tryd.underlying35 Tryd.underlying5 (by kernel_rfl) cells1 hf with ⟨hcs, _⟩ | ⟨a, len', cap', A, L, C, Z, hcs, _, hl, hm, hx, hr⟩
  · simp [Value.cells] at hcs
    obtain ⟨rfl, rfl, rfl⟩ := hcs
    exact ⟨none, 0, 0, fun _ => none, fun _ => 0, fun _ => [], rfl, Nat.zero_le _, ⟨fun h => absurd h (by decide), fun i hi => absurd hi (by omega), fun i hi => absurd hi (by omega), fun i hi => absurd hi (by omega)⟩, fun i hi => absurd hi (by omega)⟩
  · simp [Value.cells] at hcs
    obtain ⟨rfl, rfl, rfl⟩ := hcs
    have hBl : ∀ i, i < len → (((Z i).take (L i)).map fun z => UInt8.ofNat z.toNat).length = L i := fun i hi => by
      obtain ⟨_, h2, _, h4, _⟩ := hr i (by omega)
      rw [List.length_map, List.length_take]
      omega
    refine ⟨some a, len, cap, A, C, fun i => ((Z i).take (L i)).map fun z => UInt8.ofNat z.toNat, rfl, by omega, ⟨fun hn => ?_, fun i hi b o e => ?_, fun i hi => ?_, fun i hi => (hr i (by omega)).2.2.2.2.2.1⟩, fun i hi => ?_⟩
    · have h0 := (hr 0 (by omega)).1
      obtain ⟨b, o, spot⟩ := a
      have hs : spot = none := by simpa [Addr.add] using World.cell?_spot h0
      subst hs
      exact ⟨b, o, rfl, World.block_lt_of_cell? W _ h0⟩
    · simp only [Option.some.injEq] at e
      subst e
      rw [hBl i hi, ← Go.WideShapes.add_plain]
      exact (hr i (by omega)).1
    · obtain ⟨_, h2, h3, h4, h5, h6, h7⟩ := hr i (by omega)
      refine ⟨rfl, by rw [hBl i hi]; exact h2, fun hpos => ?_⟩
      rw [hBl i hi] at hpos
      cases hA : A i with
      | none => have := h6 hA; omega
      | some a' =>
        obtain ⟨_, h8⟩ := h7 a' hA
        obtain ⟨b, off, rfl, hc⟩ := ints_at (zs := Z i) (fun c hc => h8 c (by omega)) (by omega)
        refine ⟨b, off, rfl, World.block_lt_of_cell? W _ (hc 0 (by omega)), fun j u hj => ?_⟩
        have hjl : j < L i := by
          have := (List.getElem?_eq_some_iff.1 hj).1
          rw [List.length_map, hBl i hi] at this
          exact this
        have hjz : j < (Z i).length := by omega
        rw [hc j hjz, ← hj]
        have hw := h5 ((Z i)[j]) (List.getElem_mem hjz)
        have hb : 0 ≤ (Z i)[j] ∧ (Z i)[j] < 256 := by
          simp [Lit.wf, IntKind.min, IntKind.max, IntKind.signed, IntKind.bits] at hw
          omega
        have e : n8 (UInt8.ofNat (Z i)[j].toNat) = (Z i)[j] := by
          unfold n8
          rw [UInt8.toNat_ofNat']
          omega
        simp [List.getD, hjz, hjl, v8, e]
    · rw [hBl i hi]
      obtain ⟨_, h2, _, h4, _, h6, _⟩ := hr i (by omega)
      simp only [Prod.mk.injEq] at hx
      cases hA : A i with
      | none => have := h6 hA; omega
      | some a' =>
        have hmem : intRow (H := H) .u8 (A i) (L i) (Z i) ∈ (List.range len).map fun r => intRow .u8 (A r) (L r) (Z r) := by
          simp only [List.mem_map, List.mem_range]
          exact ⟨i, hi, rfl⟩
        have e : intRow (H := H) .u8 (A i) (L i) (Z i) = .slice (lits .u8 ((Z i).take (L i))) (lits .u8 ((Z i).drop (L i))) := by rw [hA]; rfl
        rw [e] at hmem
        have := sized_in hsz hts (by rw [hds, hx.1]) Tryd.underlying32 Tryd.underlying35 hmem
        rw [show Tryd.prog.bytesOf 5 = 1 by kernel_rfl] at this
        simp only [lits, List.length_map, List.length_take, List.length_drop] at this
        unfold reachBytes at this
        omega
end Go.Proofs.YtokficfpgppaeaaDoor
