/-
  What every law's lifted proof wants: a slice of bytes that came in, opened; a law's post out of 'Below'.
-/
import Derived.Test.YtjejldfpehaacaaDoorRows
import Derived.Test.YtjejldfpehaacaaDoorShaEq
import Derived.ProofKit
import Derived.LaidMore
import Derived.OpenShut
import Derived.Stop.Joined
import Derived.Lib.LaidTab
namespace Go.Proofs.YtjejldfpehaacaaDoor
open Go.ChangeShapes Go.WideShapes Go.ChangeAt Go.WideMaps Go.WideElems Go.RowKit Sh

set_option maxRecDepth 100000
theorem ownKnob_none : ownKnob Tryd.prog.godebug = none := by kernel_rfl
theorem laidOut_ok : laidOutB Tryd.prog = true := by kernel_rfl
theorem gRound : Tryd.prog.globalNamed "onionskin/sha.roundWords" = some 0 := by kernel_rfl
theorem tRound : (Tryd.prog.globals[0]?).map (·.type) = some 57 := by kernel_rfl
theorem laid_eq {H : Type} : (Rows.laid_onionskin_sha_roundWords : DataW H) = Lib.tabData .u32 (kt.map n32) := by kernel_rfl

/-- The table's cells, out of the row's condition. -/
theorem kt_of_laid {W : World} (h : laidMetH Tryd.prog [("onionskin/sha.roundWords", Rows.laid_onionskin_sha_roundWords)] W) : KT W := by
  rw [MakeChecks.laidMetH_plain _ _ _ (by kernel_rfl), laid_eq] at h
  have ht := Lib.tabIs_of_head gRound tRound Tryd.underlying57 Tryd.underlying56 (by kernel_rfl) (by kernel_rfl) h
  intro t hlt
  have hc := ht.cell gRound t (by rw [List.length_map]; exact hlt)
  rw [hc]
  have hl : t < kt.length := hlt
  simp [List.getD, hl, v32]

/-- The door's own heap meets the condition. -/
theorem door_met (os : Os) (args : Array Value) : laidMetH Tryd.prog [("onionskin/sha.roundWords", Rows.laid_onionskin_sha_roundWords)] ((World.doorLaid Tryd.prog 400 os).forCall (fun _ _ => 0) ⟨#[], args, []⟩).memory :=
  laidMetH_of_parts3 (fuel := 8) (laidMet_of_run' 8 (by kernel_rfl) (by kernel_rfl)) (by kernel_rfl) (by kernel_rfl)

/-- A slice of bytes that came in. -/
theorem open_bytes {H : Type} {enc : TypeId × Value → H} {W : World} {base : Nat} {v : Value} {d : DataW H} {p : List MemPlace} (hv : Value.okWide Tryd.prog W .any base 29 v)
    (h : DataW.Trod enc Tryd.prog W 0 (fun _ => true) true 29 v d p) : ∃ (A : Option Addr) (c : Nat) (bs : List UInt8), v = .slice A bs.length c ∧ BytesAt W A bs.length c bs ∧ c ≤ maxLen := by
  obtain ⟨a0, len, cap, rfl⟩ := okWide_slice Tryd.underlying29 hv
  obtain ⟨fuel, hf⟩ := h
  rcases open_ints Tryd.underlying29 Tryd.underlying5 cells1 hf with ⟨hcs, _⟩ | ⟨a, len', cap', zs, hcs, _, hl, hm, hz, _, hcell, hwz⟩
  · simp [Value.cells] at hcs
    obtain ⟨rfl, rfl, rfl⟩ := hcs
    exact ⟨none, 0, [], rfl, BytesAt.nil W, Nat.zero_le _⟩
  · simp [Value.cells] at hcs
    obtain ⟨rfl, rfl, rfl⟩ := hcs
    simp only [if_true] at hz
    have hlen : ((zs.take len).map fun z => UInt8.ofNat z.toNat).length = len := by rw [List.length_map, List.length_take]; omega
    refine ⟨some a, cap, (zs.take len).map fun z => UInt8.ofNat z.toNat, by rw [hlen], ⟨rfl, by rw [hlen]; exact hl, fun hpos => ?_⟩, hm⟩
    rw [hlen] at hpos
    obtain ⟨b, off, rfl, hc⟩ := ints_at hcell (by omega)
    refine ⟨b, off, rfl, World.block_lt_of_cell? W _ (hc 0 (by omega)), fun j u hj => ?_⟩
    have hjl : j < len := by
      have := (List.getElem?_eq_some_iff.1 hj).1
      rw [List.length_map, hlen] at this
      exact this
    have hjz : j < zs.length := by omega
    rw [hc j hjz, ← hj]
    have hw := hwz (zs[j]) (List.getElem_mem hjz)
    have hb : 0 ≤ zs[j] ∧ zs[j] < 256 := by
      simp [Lit.wf, IntKind.min, IntKind.max, IntKind.signed, IntKind.bits] at hw
      omega
    have e : n8 (UInt8.ofNat zs[j].toNat) = zs[j] := by
      unfold n8
      rw [UInt8.toNat_ofNat']
      omega
    simp [List.getD, hjz, hjl, v8, e]
end Go.Proofs.YtjejldfpehaacaaDoor
