/-
  What digest.Less answers.
-/
import Derived.Test.YtjejldfpehaacaaDoorShaAll
import Derived.Test.YtjejldfpehaacaaDoorDigFns
import Derived.BigQuiet
import Derived.Deep.QuietTactic
namespace Go.Proofs.YtjejldfpehaacaaDoor
open Go.RowKit Sh

structure LessAt (w wr : World) (a b : List UInt8) (k : Nat) : Prop where
  ra : Row wr w.heap.size 31 (a.map v8)
  rb : Row wr (w.heap.size + 1) 31 (b.map v8)
  below : Below w.heap.size w wr
  same : a.take k = b.take k

theorem n8_inj {x y : UInt8} (h : n8 x = n8 y) : x = y := by
  unfold n8 at h
  exact UInt8.toNat_inj.1 (by omega)

theorem less_at' (a b : List UInt8) (k : Nat) (h : a.take k = b.take k) (ha : a.length = 32) (hb : b.length = 32) (hk : k < 32) (hne : a.getD k 0 ≠ b.getD k 0) : Dg.less a b = decide (n8 (a.getD k 0) < n8 (b.getD k 0)) := by
  rw [Dg.less_at a b k h (by omega) (by omega) hne]
  simp only [n8, UInt8.lt_iff_toNat_lt, Int.ofNat_lt]
theorem more' (a b : List UInt8) (k : Nat) (h : a.take k = b.take k) (ha : a.length = 32) (hb : b.length = 32) (hk : k < 32) (he : a.getD k 0 = b.getD k 0) : a.take (k + 1) = b.take (k + 1) :=
  Dg.take_more a b k h (by omega) (by omega) he

set_option maxRecDepth 100000 in
set_option maxHeartbeats 400000 in
theorem less_any (a b : List UInt8) (ha : a.length = 32) (hb : b.length = 32) (w : World) :
    Calls Tryd.prog 28 #[.agg (a.map v8).toArray, .agg (b.map v8).toArray] w fun e w' => e = .returned (.bool (Dg.less a b)) ∧ Below w.heap.size w w' := by
  have h0 : LessAt w ((w.alloc (.cells (a.map v8).toArray 31)).alloc (.cells (b.map v8).toArray 31)) a b 0 :=
    ⟨(Row.at_ _ _ _ rfl rfl).alloc _, Row.at_ _ _ _ rfl (by simp), ((Below.refl _ _).alloc (Nat.le_refl _) _).alloc (by simp) _, rfl⟩
  have H0 := Lib.hid h0
  have HA := Lib.hid ha
  have HB := Lib.hid hb
  clear h0 ha hb
  generalize hAA : a.map v8 = AA at *
  generalize hBB : b.map v8 = BB at *
  have HAA := Lib.hid hAA
  have HBB := Lib.hid hBB
  clear hAA hBB
  go_enter Tryd.func28, Tryd.ntmps28
  go_wp2_with fail
  go_loopw [6] (fun i wr => ∃ k : Nat, k ≤ 32 ∧ i = .int .i64 k ∧ Hid (LessAt w wr a b k)) (fun i _ => 32 - (intOf i).toNat)
  case atStart => exact ⟨0, Nat.zero_le _, rfl, H0⟩
  case round =>
    obtain ⟨k, hk, rfl, hs⟩ := hrel
    by_cases hlt : k < 32
    · have ca : wr.cell? ⟨w.heap.size, k, none⟩ = some (.int .u8 (n8 (a.getD k 0))) := hs.out.ra.cell (by
        rw [List.getElem?_map, List.getElem?_eq_getElem (by rw [HA.out]; exact hlt)]
        simp [List.getD, v8, HA.out, hlt])
      have cb : wr.cell? ⟨w.heap.size + 1, k, none⟩ = some (.int .u8 (n8 (b.getD k 0))) := hs.out.rb.cell (by
        rw [List.getElem?_map, List.getElem?_eq_getElem (by rw [HB.out]; exact hlt)]
        simp [List.getD, v8, HB.out, hlt])
      have hat := less_at' a b k
      have hmo := more' a b k
      generalize hx : a.getD k 0 = x at *
      generalize hy : b.getD k 0 = y at *
      have HAT := Lib.hid hat
      have HMO := Lib.hid hmo
      have q0 := n8_nonneg x
      have q1 := n8_lt x
      have q2 := n8_nonneg y
      have q3 := n8_lt y
      have l0 : 0 ≤ (k : Int) ∧ (k : Int) < 32 := by omega
      clear hx hy hat hmo
      by_cases he : x = y
      · have e1 : (n8 x != n8 y) = false := by rw [he]; simp
        have e2 : (n8 x == n8 y) = true := by rw [he]; simp
        have HE := Lib.hid he
        clear he
        go_wp2_with fail
        go_quiet (fail)
        go_wp2_with fail
        go_roundw
        case rel => exact ⟨k + 1, by omega, by go_num, ⟨hs.out.ra, hs.out.rb, below_drewN hs.out.below _, HMO.out hs.out.same HA.out HB.out (by omega) HE.out⟩⟩
        case measure => simp [intOf] <;> omega
      · have e1 : (n8 x != n8 y) = true := by rw [bne_iff_ne]; exact fun h => he (n8_inj h)
        have e2 : (n8 x == n8 y) = false := by rw [beq_eq_false_iff_ne]; exact fun h => he (n8_inj h)
        have HE := Lib.hid he
        clear he
        go_wp2_with fail
        go_quiet (fail)
        go_wp2_with fail
        go_quiet (fail)
        go_wp2_with fail
        go_ret
        exact ⟨by rw [HAT.out hs.out.same HA.out HB.out (by omega) HE.out]; rfl, below_drewN (below_drewN hs.out.below _) _⟩
    · have hge : (32 : Int) ≤ (k : Int) := by omega
      go_wp2_with fail
      go_ret
      refine ⟨?_, hs.out.below⟩
      have e : k = 32 := by omega
      have h := hs.out.same
      rw [e, List.take_of_length_le (by rw [HA.out]; omega), List.take_of_length_le (by rw [HB.out]; omega)] at h
      rw [h, Dg.less_irrefl]
      rfl
end Go.Proofs.YtjejldfpehaacaaDoor
