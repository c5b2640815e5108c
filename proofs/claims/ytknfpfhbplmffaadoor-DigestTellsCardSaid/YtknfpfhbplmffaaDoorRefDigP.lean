/-
  What the reference answers of digests: Print, Parse.
-/
import Derived.Test.YtknfpfhbplmffaaDoorRefDig
namespace Go.Proofs.YtknfpfhbplmffaaDoor
open Go.RowKit Sh

theorem digit_int (n : Int) (h0 : 0 ≤ n) (h1 : n < 16) (w : World) : Calls Tryd.prog 35 #[.int .i64 n] w fun e w' => e = .returned (.string ⟨#[Dg.hx n.toNat]⟩) ∧ w = w' := by
  obtain ⟨k, rfl⟩ := Int.eq_ofNat_of_zero_le h0
  rw [Int.toNat_natCast]
  exact digit_any k (by omega) w
theorem cat_two (T : List UInt8) (a b : UInt8) : (⟨T.toArray⟩ ++ ⟨#[a]⟩ ++ ⟨#[b]⟩ : ByteArray) = ⟨(T ++ [a, b]).toArray⟩ := by
  apply ByteArray.ext
  simp
structure RefPrintAt (w wr : World) (d : List UInt8) : Prop where
  row : Row wr w.heap.size 25 (d.map v8)
  below : Below w.heap.size w wr
set_option maxRecDepth 100000 in
set_option maxHeartbeats 400000 in
theorem refprint_any (d : List UInt8) (hd : d.length = 32) (w : World) :
    Calls Tryd.prog 23 #[.agg (d.map v8).toArray] w fun e w' => e = .returned (.string ⟨(Dg.text d).toArray⟩) ∧ Below w.heap.size w w' := by
  have h0 : RefPrintAt w (w.alloc (.cells (d.map v8).toArray 25)) d := ⟨Row.at_ _ _ _ rfl rfl, (Below.refl _ _).alloc (Nat.le_refl _) _⟩
  have H0 := Lib.hid h0
  have HD := Lib.hid hd
  clear h0 hd
  generalize hDD : d.map v8 = DD at *
  go_enter Tryd.func23, Tryd.ntmps23
  go_wp2_with fail
  go_loopw [3, 4] (fun s i wr => ∃ (k : Nat) (T : List UInt8), k ≤ 32 ∧ i = .int .i64 k ∧ s = .string ⟨T.toArray⟩ ∧ T.length = 7 + 2 * k ∧ Hid (T = Dg.pre ++ Dg.pairs (d.take k)) ∧ Hid (RefPrintAt w wr d)) (fun _ i _ => 32 - (intOf i).toNat)
  case atStart => exact ⟨0, Dg.pre, Nat.zero_le _, rfl, rfl, rfl, by rw [List.take_zero]; rfl, H0⟩
  case round =>
    obtain ⟨k, T, hk, rfl, rfl, hl, hT, hs⟩ := hrel
    have HL := Lib.hid hl
    have hTl : T.length ≤ 71 := by omega
    clear hl
    by_cases hlt : k < 32
    · have cd : wr.cell? ⟨w.heap.size, k, none⟩ = some (.int .u8 (n8 (d.getD k 0))) := hs.out.row.cell (by
        rw [List.getElem?_map, List.getElem?_eq_getElem (by rw [HD.out]; exact hlt)]
        simp [List.getD, v8, HD.out, hlt])
      have hst : Dg.pre ++ Dg.pairs (d.take (k + 1)) = Dg.pre ++ Dg.pairs (d.take k) ++ [Dg.hx ((d.getD k 0).toNat / 16), Dg.hx ((d.getD k 0).toNat % 16)] := by
        have hkl : k < d.length := by rw [HD.out]; exact hlt
        rw [List.take_add_one, List.getElem?_eq_getElem hkl, Option.toList_some, Dg.pairs_append, List.append_assoc]
        simp [Dg.pairs, List.getD, hkl]
      generalize hx : d.getD k 0 = x at *
      have hn1 : (n8 x / 16).toNat = x.toNat / 16 := by unfold n8; omega
      have hn2 : (n8 x % 16).toNat = x.toNat % 16 := by unfold n8; omega
      rw [← hn1, ← hn2] at hst
      have HST := Lib.hid hst
      have q0 := n8_nonneg x
      have q1 := n8_lt x
      have l0 : 0 ≤ (k : Int) ∧ (k : Int) < 32 := by omega
      have z1 : ¬ 9223372036854775807 < T.length + 1 := by omega
      have z2 : ¬ 9223372036854775807 < T.length + 1 + 1 := by omega
      clear hx hn1 hn2 hst
      go_wp2_with fail
      go_quiet ((go_at_call 35; exact Calls.quiet_of_same ((digit_int _ (by omega) (by omega) _).mono fun _ _ ⟨he, hw⟩ => ⟨he, hw.symm⟩)))
      go_wp2_with fail
      rw [cat_two]
      go_roundw
      case rel => exact ⟨k + 1, _, by omega, by go_num, rfl, by rw [List.length_append, HL.out]; simp; omega, by rw [HST.out, hT.out]; exact Lib.hid rfl, hs.out.row.drewN _, below_drewN hs.out.below _⟩
      case measure => simp [intOf] <;> omega
    · have hge : (32 : Int) ≤ (k : Int) := by omega
      have hfin : T = Dg.text d := by
        rw [hT.out, show k = 32 by omega, List.take_of_length_le (by rw [HD.out]; omega)]; rfl
      have HF := Lib.hid hfin
      clear hfin
      go_wp2_with fail
      go_ret
      exact ⟨by rw [HF.out]; rfl, hs.out.below⟩
end Go.Proofs.YtknfpfhbplmffaaDoor
