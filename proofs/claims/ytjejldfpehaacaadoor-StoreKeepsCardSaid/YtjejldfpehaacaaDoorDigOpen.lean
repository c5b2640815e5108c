/-
  A digest that came in, opened.
-/
import Derived.Test.YtjejldfpehaacaaDoorLawOpen
import Derived.ChangeMaps5
namespace Go.Proofs.YtjejldfpehaacaaDoor
set_option maxRecDepth 100000
open Go.ChangeShapes Go.WideShapes Go.ChangeAt Go.WideMaps Go.WideElems Go.RowKit Sh

def byteOfV : Value → UInt8
  | .int _ n => UInt8.ofNat n.toNat
  | _ => 0
theorem open_digest {H : Type} {enc : TypeId × Value → H} {W : World} {base : Nat} {v : Value} {d : DataW H} {p : List MemPlace} (hv : Value.okWide Tryd.prog W .any base 31 v)
    (h : DataW.Trod enc Tryd.prog W 0 (fun _ => true) true 31 v d p) : ∃ bs : List UInt8, v = .agg (bs.map v8).toArray ∧ bs.length = 32 := by
  have h1 := hv
  simp only [Value.okWide, Tryd.underlying31] at h1
  obtain ⟨cs, rfl, h2, _⟩ := h1
  rw [show Tryd.prog.cellsOf 31 = 32 from by kernel_rfl] at h2
  obtain ⟨fuel, hf⟩ := h
  obtain ⟨xs, m, rfl, _, hl, hx, he⟩ := DataW.trod_array Tryd.underlying31 hf
  refine ⟨cs.toList.map byteOfV, ?_, by simpa using h2⟩
  congr 1
  apply Array.ext
  · simp
  · intro i hi hj
    have hi32 : i < 32 := by omega
    have hq := he i hi32
    rw [show Tryd.prog.cellsOf 5 = 1 from by kernel_rfl, Nat.mul_one] at hq
    have hlist : (Value.agg cs).cells.toList = cs.toList := rfl
    rw [hlist, List.drop_eq_getElem_cons (by simpa using hi), List.take_succ_cons, List.take_zero, List.getElem?_eq_getElem (by omega)] at hq
    obtain ⟨a, ea, _, wa⟩ := DataW.trod_int Tryd.underlying5 hq
    simp only [List.cons.injEq, and_true] at ea
    have hb : 0 ≤ a ∧ a < 256 := by
      simp [Lit.wf, IntKind.min, IntKind.max, IntKind.signed, IntKind.bits] at wa
      omega
    simp only [Array.getElem_toList] at ea
    simp only [List.getElem_toArray, List.getElem_map, Array.getElem_toList, ea, byteOfV, v8, n8, UInt8.toNat_ofNat']
    congr 1
    omega
theorem open_str {H : Type} {enc : TypeId × Value → H} {W : World} {base : Nat} {v : Value} {d : DataW H} {p : List MemPlace} (hv : Value.okWide Tryd.prog W .any base 9 v)
    (h : DataW.Trod enc Tryd.prog W 0 (fun _ => true) true 9 v d p) : ∃ l : List UInt8, v = .string ⟨l.toArray⟩ ∧ l.length ≤ maxLen := by
  obtain ⟨s, rfl, _, _, hm⟩ := Go.ChangeMaps.open_string Tryd.underlying9 hv h
  obtain ⟨⟨l⟩⟩ := s
  exact ⟨l, rfl, hm⟩
theorem open_i64 {H : Type} {enc : TypeId × Value → H} {W : World} {base : Nat} {v : Value} {d : DataW H} {p : List MemPlace} (hv : Value.okWide Tryd.prog W .any base 3 v)
    (h : DataW.Trod enc Tryd.prog W 0 (fun _ => true) true 3 v d p) : ∃ n : Int, v = .int .i64 n ∧ -9223372036854775808 ≤ n ∧ n ≤ 9223372036854775807 := by
  obtain ⟨n, rfl, _, _, hw⟩ := open_int Tryd.underlying3 hv h
  simp [Lit.wf, IntKind.min, IntKind.max, IntKind.signed, IntKind.bits] at hw
  exact ⟨n, rfl, by omega, by omega⟩
theorem open_u8 {H : Type} {enc : TypeId × Value → H} {W : World} {base : Nat} {v : Value} {d : DataW H} {p : List MemPlace} (hv : Value.okWide Tryd.prog W .any base 5 v)
    (h : DataW.Trod enc Tryd.prog W 0 (fun _ => true) true 5 v d p) : ∃ x : UInt8, v = v8 x := by
  obtain ⟨n, rfl, _, _, hw⟩ := open_int Tryd.underlying5 hv h
  simp [Lit.wf, IntKind.min, IntKind.max, IntKind.signed, IntKind.bits] at hw
  refine ⟨UInt8.ofNat n.toNat, ?_⟩
  rw [v8, n8, UInt8.toNat_ofNat']
  congr 1
  omega
end Go.Proofs.YtjejldfpehaacaaDoor
