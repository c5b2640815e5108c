/-
  The reference's batch: Staged.
-/
import Derived.Test.YtokficfpgppaeaaDoorRbGet
namespace Go.Proofs.YtokficfpgppaeaaDoor
open Go Go.RowKit Go.Maps Go.Sort Sh

/-- How many digests Staged goes over. -/
theorem take_dg {P : List (Value × List UInt8)} {k : Nat} (h : k < P.length) : ((P.take (k + 1)).map fun t => dg t.2) = ((P.take k).map fun t => dg t.2) ++ [dg (P.getD k default).2] := by
  rw [List.take_add_one, List.getElem?_eq_getElem h, show P.getD k default = P[k] by simp [List.getD, h], List.map_append]
  rfl

set_option maxRecDepth 100000 in
set_option maxHeartbeats 4000000 in
theorem rbstaged_any {w : World} {q y : Nat} {bv : Value} {P : List (Value × List UInt8)} {Z : Nat → Prop} (h : RbAt w q y bv P false Z) :
    Calls Tryd.prog 25 #[.pointer (some ⟨q, 0, none⟩)] w (DigsIs w (P.map fun t => dg t.2)) := by
  obtain ⟨A, c, rfl, hcell⟩ := h.shapeB
  have HC := Lib.hid hcell
  have HH := Lib.hid h
  have hfew := h.few
  have H0 : Hid (OwnDigs w w.heap.size (.slice none 0 0) ((P.take 0).map fun t => dg t.2)) := Lib.hid ⟨rfl, .inl ⟨rfl, rfl⟩⟩
  clear h hcell
  go_enter Tryd.func25, Tryd.ntmps25
  go_wp2
  go_loopg [3, 4] P.length (fun gg s3 s4 wr => ∃ (k : Nat) (Av : Option Addr) (nv cv : Nat), s4 = .int .i64 k ∧ s3 = .slice Av nv cv ∧ k ≤ P.length ∧ gg = P.length - k ∧ Hid (OwnDigs wr w.heap.size (.slice Av nv cv) ((P.take k).map fun t => dg t.2)) ∧ Hid (Kept w wr (fun _ => False)))
  case atStart => exact ⟨0, none, 0, 0, rfl, rfl, Nat.zero_le _, rfl, H0, Kept.refl _ _⟩
  case round =>
    clear H0
    obtain ⟨k, Av, nv, cv, rfl, rfl, hk, hg, HO, KW⟩ := hrel
    have hc1 := (HH.out.quiet KW.out).c1
    have hc2 := (HH.out.quiet KW.out).c2
    by_cases hlt : k < P.length
    · obtain ⟨g, rfl, hgl, r1⟩ := HC.out k hlt
      have hkn : (k : Int) < (P.length : Int) := by omega
      obtain ⟨A', c', e', hby, hn', hl'⟩ := HH.out.at_ hlt
      rw [e'] at r1
      have hc6 := KW.out.cell r1 (fun h => h)
      have HSM := Lib.hid (refsum_any wr A' c' (P.getD k default).2 (hby.kept KW.out (fun _ _ _ _ h => h)) hn' (by omega))
      have HTD := Lib.hid (take_dg hlt)
      have HDX := Lib.hid (show (dg (P.getD k default).2).1.map v8 = (digest (P.getD k default).2).map v8 from rfl)
      generalize hG : (digest (P.getD k default).2).map v8 = D at *
      have HDL := Lib.hid (show D.length = 32 by rw [← hG, List.length_map]; rfl)
      generalize dg (P.getD k default).2 = x at *
      generalize (P.getD k default).2.length = m at *
      have HLM := Lib.hid (show ((P.take k).map fun t => dg t.2).length + 1 ≤ 2000000 by rw [List.length_map, List.length_take]; omega)
      have HFL := Lib.hid (flat_one x D HDX.out)
      clear r1 e' hby hn' hl' hG
      go_wp2_with fail
      refine HSM.out.mono ?_
      rintro e w3 ⟨rfl, K3⟩
      have C3 := Lib.hid (kept_trans KW.out (kept_below K3))
      have O3 := Lib.hid (HO.out.kept (kept_below K3) (fun _ _ h => h))
      have HWZ := Lib.hid C3.out.size
      clear K3 HSM
      go_upto_region 4 with (first
        | ((with_reducible refine build_one ?_ (.tmp 29) ?_ D HDL.out ?_ ?_); rfl; rfl; go_must (rfl; intro w4 X4 K4; have O4 := Lib.hid (O3.out.kept K4.out (fun _ _ h => h)); have HNW := Lib.hid (show ∀ ad, some (⟨w3.heap.size, 0, none⟩ : Addr) = some ad → ∀ j u, (flat32 [x])[j]? = some u → w4.cell? (ad.add j) = some u from fun ad e j u hj => by cases e; rw [HFL.out] at hj; rw [Addr.add_mid]; exact X4.out.cell (by simpa using hj))))
        | (at_builtin; with_reducible refine append_digs ?_ (.tmp 21) (.tmp 30) ?_ w.heap.size (.slice Av nv cv) ((P.take k).map fun t => dg t.2) ?_ O4.out (some ⟨w3.heap.size, 0, none⟩) 1 1 [x] ?_ rfl ?_ HNW.out HLM.out ?_ ?_; rfl; rfl; go_must ((first | rfl | kernel_rfl | simp [Act.put, Act.eval]); (first | rfl | kernel_rfl | simp [Act.put, Act.eval]); (intro e; cases e); (exact Nat.le_trans HWZ.out K4.out.size); intro v5 w5 O5 K5 N5)))
      have C4 := Lib.hid (kept_trans C3.out K4.out)
      have C5 := Lib.hid (show Kept w w5 (fun _ => False) from kept_since C4.out K5.out (fun x hx hh => by omega))
      have HO5 := Lib.hid (show OwnDigs w5 w.heap.size v5 ((P.take (k + 1)).map fun t => dg t.2) by rw [HTD.out]; exact O5.out)
      obtain ⟨A5, n5, c5, rfl⟩ := slice_shape HO5.out
      clear C3 O3 X4 K4 O4 HNW K5 N5 O5 C4
      go_wp2_with fail
      go_roundg (P.length - (k + 1))
      case rel => exact ⟨k + 1, A5, n5, c5, by go_num, rfl, by omega, rfl, HO5, C5⟩
      case measure => omega
    · obtain rfl : k = P.length := by omega
      rw [List.take_length] at HO
      go_wp2_with fail
      go_ret
      exact ⟨_, rfl, HO, KW⟩

set_option maxRecDepth 100000 in
set_option maxHeartbeats 1000000 in
theorem rbstaged_over {w : World} {q y : Nat} {bv : Value} {P : List (Value × List UInt8)} {Z : Nat → Prop} (h : RbAt w q y bv P true Z) :
    Calls Tryd.prog 25 #[.pointer (some ⟨q, 0, none⟩)] w (DigsIs w []) := by
  obtain ⟨A, c, rfl, _⟩ := h.shapeB
  have hc1 := h.c1
  have hc2 := h.c2
  have hfew := h.few
  have H0 : Hid (OwnDigs w w.heap.size (.slice none 0 0) []) := Lib.hid ⟨rfl, .inl ⟨rfl, rfl⟩⟩
  clear h
  go_enter Tryd.func25, Tryd.ntmps25
  go_wp2
  go_loopg [3, 4] 0 (fun gg s3 s4 wr => s4 = .int .i64 0 ∧ s3 = .slice none 0 0 ∧ gg = 0 ∧ wr = w)
  case atStart => exact ⟨rfl, rfl, rfl, rfl⟩
  case round =>
    obtain ⟨rfl, rfl, hg, rfl⟩ := hrel
    by_cases h0 : P.length = 0
    · rw [h0] at hc1
      go_wp2_with fail
      go_ret
      exact ⟨_, rfl, H0, Kept.refl _ _⟩
    · have h0' : (0 : Int) < (P.length : Int) := by omega
      go_wp2_with fail
      go_ret
      exact ⟨_, rfl, H0, Kept.refl _ _⟩
end Go.Proofs.YtokficfpgppaeaaDoor
