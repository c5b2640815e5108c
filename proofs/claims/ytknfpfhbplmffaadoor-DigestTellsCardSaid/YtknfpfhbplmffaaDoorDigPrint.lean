/-
  What digest.Print answers.
-/
import Derived.Test.YtknfpfhbplmffaaDoorDigLess
namespace Go.Proofs.YtknfpfhbplmffaaDoor
open Go.RowKit Sh

/-- The text's digits behind the prefix, as far as k bytes, zeros behind. -/
def hexZ (d : List UInt8) (k : Nat) : List UInt8 := Dg.pairs (d.take k) ++ List.replicate (64 - 2 * k) 0
theorem hexZ_length (d : List UInt8) (k : Nat) (hd : d.length = 32) (hk : k ≤ 32) : (hexZ d k).length = 64 := by
  rw [hexZ, List.length_append, Dg.pairs_length, List.length_take, List.length_replicate]; omega
theorem hexZ_step (d : List UInt8) (k : Nat) (hd : d.length = 32) (hk : k < 32) :
    ((hexZ d k).set (2 * k) (Dg.hx ((d.getD k 0).toNat / 16))).set (2 * k + 1) (Dg.hx ((d.getD k 0).toNat % 16)) = hexZ d (k + 1) := by
  have hp : (Dg.pairs (d.take k)).length = 2 * k := by rw [Dg.pairs_length, List.length_take]; omega
  unfold hexZ
  rw [List.set_append_right _ _ (by omega), List.set_append_right _ _ (by omega), hp, Nat.sub_self, show 2 * k + 1 - 2 * k = 1 by omega, show 64 - 2 * k = (64 - 2 * (k + 1)) + 1 + 1 by omega, List.replicate_succ, List.replicate_succ, List.set_cons_zero, List.set_cons_succ, List.set_cons_zero]
  have hlt : k < d.length := by omega
  rw [List.take_add_one, List.getElem?_eq_getElem hlt, Option.toList_some, Dg.pairs_append]
  simp only [List.getD, List.getElem?_eq_getElem hlt, Option.getD_some, Dg.pairs, List.append_assoc, List.cons_append, List.nil_append]
theorem hexZ_all (d : List UInt8) (hd : d.length = 32) : hexZ d 32 = Dg.pairs d := by
  rw [hexZ, List.take_of_length_le (by omega)]; simp

structure PrintAt (w wr : World) (d : List UInt8) (k : Nat) : Prop where
  row : Row wr (w.heap.size + 1) 52 ((hexZ d k).map v8)
  below : Below w.heap.size w wr

theorem index_digit0 (W : World) : (Instr.index 9 (.string ⟨#[48, 49, 50, 51, 52, 53, 54, 55, 56, 57, 97, 98, 99, 100, 101, 102]⟩) (.int .u8 0)).run Tryd.prog W = .ok (.int .u8 48) W := by kernel_rfl
theorem index_digit1 (W : World) : (Instr.index 9 (.string ⟨#[48, 49, 50, 51, 52, 53, 54, 55, 56, 57, 97, 98, 99, 100, 101, 102]⟩) (.int .u8 1)).run Tryd.prog W = .ok (.int .u8 49) W := by kernel_rfl
theorem index_digit2 (W : World) : (Instr.index 9 (.string ⟨#[48, 49, 50, 51, 52, 53, 54, 55, 56, 57, 97, 98, 99, 100, 101, 102]⟩) (.int .u8 2)).run Tryd.prog W = .ok (.int .u8 50) W := by kernel_rfl
theorem index_digit3 (W : World) : (Instr.index 9 (.string ⟨#[48, 49, 50, 51, 52, 53, 54, 55, 56, 57, 97, 98, 99, 100, 101, 102]⟩) (.int .u8 3)).run Tryd.prog W = .ok (.int .u8 51) W := by kernel_rfl
theorem index_digit4 (W : World) : (Instr.index 9 (.string ⟨#[48, 49, 50, 51, 52, 53, 54, 55, 56, 57, 97, 98, 99, 100, 101, 102]⟩) (.int .u8 4)).run Tryd.prog W = .ok (.int .u8 52) W := by kernel_rfl
theorem index_digit5 (W : World) : (Instr.index 9 (.string ⟨#[48, 49, 50, 51, 52, 53, 54, 55, 56, 57, 97, 98, 99, 100, 101, 102]⟩) (.int .u8 5)).run Tryd.prog W = .ok (.int .u8 53) W := by kernel_rfl
theorem index_digit6 (W : World) : (Instr.index 9 (.string ⟨#[48, 49, 50, 51, 52, 53, 54, 55, 56, 57, 97, 98, 99, 100, 101, 102]⟩) (.int .u8 6)).run Tryd.prog W = .ok (.int .u8 54) W := by kernel_rfl
theorem index_digit7 (W : World) : (Instr.index 9 (.string ⟨#[48, 49, 50, 51, 52, 53, 54, 55, 56, 57, 97, 98, 99, 100, 101, 102]⟩) (.int .u8 7)).run Tryd.prog W = .ok (.int .u8 55) W := by kernel_rfl
theorem index_digit8 (W : World) : (Instr.index 9 (.string ⟨#[48, 49, 50, 51, 52, 53, 54, 55, 56, 57, 97, 98, 99, 100, 101, 102]⟩) (.int .u8 8)).run Tryd.prog W = .ok (.int .u8 56) W := by kernel_rfl
theorem index_digit9 (W : World) : (Instr.index 9 (.string ⟨#[48, 49, 50, 51, 52, 53, 54, 55, 56, 57, 97, 98, 99, 100, 101, 102]⟩) (.int .u8 9)).run Tryd.prog W = .ok (.int .u8 57) W := by kernel_rfl
theorem index_digit10 (W : World) : (Instr.index 9 (.string ⟨#[48, 49, 50, 51, 52, 53, 54, 55, 56, 57, 97, 98, 99, 100, 101, 102]⟩) (.int .u8 10)).run Tryd.prog W = .ok (.int .u8 97) W := by kernel_rfl
theorem index_digit11 (W : World) : (Instr.index 9 (.string ⟨#[48, 49, 50, 51, 52, 53, 54, 55, 56, 57, 97, 98, 99, 100, 101, 102]⟩) (.int .u8 11)).run Tryd.prog W = .ok (.int .u8 98) W := by kernel_rfl
theorem index_digit12 (W : World) : (Instr.index 9 (.string ⟨#[48, 49, 50, 51, 52, 53, 54, 55, 56, 57, 97, 98, 99, 100, 101, 102]⟩) (.int .u8 12)).run Tryd.prog W = .ok (.int .u8 99) W := by kernel_rfl
theorem index_digit13 (W : World) : (Instr.index 9 (.string ⟨#[48, 49, 50, 51, 52, 53, 54, 55, 56, 57, 97, 98, 99, 100, 101, 102]⟩) (.int .u8 13)).run Tryd.prog W = .ok (.int .u8 100) W := by kernel_rfl
theorem index_digit14 (W : World) : (Instr.index 9 (.string ⟨#[48, 49, 50, 51, 52, 53, 54, 55, 56, 57, 97, 98, 99, 100, 101, 102]⟩) (.int .u8 14)).run Tryd.prog W = .ok (.int .u8 101) W := by kernel_rfl
theorem index_digit15 (W : World) : (Instr.index 9 (.string ⟨#[48, 49, 50, 51, 52, 53, 54, 55, 56, 57, 97, 98, 99, 100, 101, 102]⟩) (.int .u8 15)).run Tryd.prog W = .ok (.int .u8 102) W := by kernel_rfl
theorem index_digit (k : Nat) (hk : k < 16) (W : World) : (Instr.index 9 (.string ⟨#[48, 49, 50, 51, 52, 53, 54, 55, 56, 57, 97, 98, 99, 100, 101, 102]⟩) (.int .u8 (k : Int))).run Tryd.prog W = .ok (v8 (Dg.hx k)) W := by
  have h : k = 0 ∨ k = 1 ∨ k = 2 ∨ k = 3 ∨ k = 4 ∨ k = 5 ∨ k = 6 ∨ k = 7 ∨ k = 8 ∨ k = 9 ∨ k = 10 ∨ k = 11 ∨ k = 12 ∨ k = 13 ∨ k = 14 ∨ k = 15 := by omega
  rcases h with rfl | rfl | rfl | rfl | rfl | rfl | rfl | rfl | rfl | rfl | rfl | rfl | rfl | rfl | rfl | rfl
  · exact index_digit0 W
  · exact index_digit1 W
  · exact index_digit2 W
  · exact index_digit3 W
  · exact index_digit4 W
  · exact index_digit5 W
  · exact index_digit6 W
  · exact index_digit7 W
  · exact index_digit8 W
  · exact index_digit9 W
  · exact index_digit10 W
  · exact index_digit11 W
  · exact index_digit12 W
  · exact index_digit13 W
  · exact index_digit14 W
  · exact index_digit15 W

theorem index_bytes (d : List UInt8) (hd : d.length = 32) (k : Nat) (hk : k < 32) (W : World) : (Instr.index 25 (.agg (d.map v8).toArray) (.int .i64 (k : Int))).run Tryd.prog W = .ok (v8 (d.getD k 0)) W := by
  simp [Instr.index, run_underlying Tryd.underlying25, Tryd.sizeOf5, part, Tryd.isAgg5, asIntOf, Result.andThen]
  rw [show d[k]? = some (d.getD k 0) from by simp [List.getD, hd, hk]]
  simp [Sem.run_pure]
  exact fun h => absurd hk (by omega)

theorem fold_push (bs : List UInt8) : ∀ r : ByteArray, (bs.map n8).foldl (fun r n => r.push (UInt8.ofNat n.toNat)) r = ⟨r.data ++ bs.toArray⟩ := by
  induction bs with
  | nil => intro r; simp
  | cons x l ih =>
    intro r
    rw [List.map_cons, List.foldl_cons, ih]
    congr 1
    rw [show UInt8.ofNat (n8 x).toNat = x from by rw [n8, Int.toNat_natCast, UInt8.ofNat_toNat]]
    simp [ByteArray.push]
/-- string(b) of a slice that is known. -/
theorem conv_string (w : World) (a : Addr) (c : Nat) (bs : List UInt8) (h : ∀ j v, (bs.map v8)[j]? = some v → w.cell? (a.add j) = some v) (n : Nat) (hn : bs.length = n) :
    (convert 22 9 (.slice (some a) n c)).run Tryd.prog w = .ok (.string ⟨bs.toArray⟩) w := by
  subst hn
  have hl := run_loadCells_list (P := Tryd.prog) w a (bs.map v8) h
  rw [List.length_map] at hl
  have e : bs.map v8 = (bs.map n8).map (Value.int .u8) := by rw [List.map_map]; rfl
  rw [e] at hl
  rw [run_convert_bytes_string w _ _ _ _ _ _ Tryd.underlying22 Tryd.underlying5 Tryd.underlying9, run_bytesToString w a bs.length c (bs.map n8) hl, fold_push]
  simp

set_option maxRecDepth 100000 in
set_option maxHeartbeats 400000 in
theorem print_any (d : List UInt8) (hd : d.length = 32) (w : World) :
    Calls Tryd.prog 22 #[.agg (d.map v8).toArray] w fun e w' => e = .returned (.string ⟨(Dg.text d).toArray⟩) ∧ Below w.heap.size w w' := by
  have HD := Lib.hid hd
  have hdl : (d.map v8).length = 32 := by rw [List.length_map]; exact hd
  have HDL := Lib.hid hdl
  clear hdl hd
  generalize hDD : d.map v8 = D at *
  have HDD := Lib.hid hDD
  clear hDD
  go_enter Tryd.func22, Tryd.ntmps22
  go_wp2_with ((with_reducible refine wpList_load_row ?_ 25 (.tmp 1) ?_ w.heap.size ?_ 25 D.toArray (0, 0) _ ?_ Tryd.underlying25 ?_ ?_ ?_); rfl; rfl; go_must (rfl; exact Row.alloc (Row.at_ _ _ D rfl rfl) _; rfl; (rw [List.size_toArray, HDL.out]; kernel_rfl)))
  have h0 : PrintAt w ((w.alloc (.cells D.toArray 25)).alloc (.cells (List.replicate 64 (v8 0)).toArray 52)) d 0 :=
    ⟨Row.at_ _ _ _ (by rw [hexZ]; simp [Dg.pairs]) (by simp), ((Below.refl _ _).alloc (Nat.le_refl _) _).alloc (by simp) _⟩
  have H0 := Lib.hid h0
  clear h0
  go_loopw [7] (fun i wr => ∃ k : Nat, k ≤ 32 ∧ i = .int .i64 k ∧ Hid (PrintAt w wr d k)) (fun i _ => 32 - (intOf i).toNat)
  case atStart => exact ⟨0, Nat.zero_le _, rfl, H0⟩
  case round =>
    obtain ⟨k, hk, rfl, hs⟩ := hrel
    by_cases hlt : k < 32
    · have l0 : 0 ≤ (k : Int) ∧ (k : Int) < 32 := by omega
      have hi1 : ∀ W, (Instr.index 25 (.agg D.toArray) (.int .i64 (k : Int))).run Tryd.prog W = .ok (.int .u8 (n8 (d.getD k 0))) W := fun W => by
        rw [← HDD.out]; exact index_bytes d HD.out k hlt W
      have hst := hexZ_step d k HD.out hlt
      generalize hx : d.getD k 0 = x at *
      have hxl := x.toNat_lt
      have hi2 : ∀ W, (Instr.index 9 (.string ⟨#[48, 49, 50, 51, 52, 53, 54, 55, 56, 57, 97, 98, 99, 100, 101, 102]⟩) (.int .u8 (n8 x / 16))).run Tryd.prog W = .ok (.int .u8 (n8 (Dg.hx (x.toNat / 16)))) W := fun W => by
        have h := index_digit (x.toNat / 16) (by omega) W
        rw [Int.natCast_ediv] at h
        exact h
      have hi3 : ∀ W, (Instr.index 9 (.string ⟨#[48, 49, 50, 51, 52, 53, 54, 55, 56, 57, 97, 98, 99, 100, 101, 102]⟩) (.int .u8 (n8 x % 16))).run Tryd.prog W = .ok (.int .u8 (n8 (Dg.hx (x.toNat % 16)))) W := fun W => by
        have h := index_digit (x.toNat % 16) (by omega) W
        rw [Int.natCast_emod] at h
        exact h
      have q0 := n8_nonneg x
      have q1 := n8_lt x
      have HST := Lib.hid hst
      clear hst hx hxl
      generalize hv1 : n8 (Dg.hx (x.toNat / 16)) = v1 at *
      generalize hv2 : n8 (Dg.hx (x.toNat % 16)) = v2 at *
      have HV1 := Lib.hid hv1
      have HV2 := Lib.hid hv2
      clear hv1 hv2
      obtain ⟨c1, hc1⟩ : ∃ u, wr.cell? ⟨w.heap.size + 1, 2 * k, none⟩ = some u := ⟨_, hs.out.row.cell (List.getElem?_eq_getElem (by rw [List.length_map, hexZ_length d k HD.out hk]; omega))⟩
      obtain ⟨c2, hc2⟩ : ∃ u, wr.cell? ⟨w.heap.size + 1, 2 * k + 1, none⟩ = some u := ⟨_, hs.out.row.cell (List.getElem?_eq_getElem (by rw [List.length_map, hexZ_length d k HD.out hk]; omega))⟩
      have f1 := hs.out.row.frozen (2 * k)
      have f2 := hs.out.row.frozen (2 * k + 1)
      go_wp2_with fail
      go_roundw
      case rel =>
        refine ⟨k + 1, by omega, by go_num, ?_, (hs.out.below.setCell (by simp) _).setCell (by simp) _⟩
        rw [← HST.out, ← HV1.out, ← HV2.out]
        have h := (hs.out.row.set (2 * k) (v8 (Dg.hx (x.toNat / 16)))).set (2 * k + 1) (v8 (Dg.hx (x.toNat % 16)))
        rwa [← List.map_set, ← List.map_set] at h
      case measure => simp [intOf] <;> omega
    · have hge : (32 : Int) ≤ (k : Int) := by omega
      have hk32 : k = 32 := by omega
      have hr : Row wr (w.heap.size + 1) 52 ((Dg.pairs d).map v8) := by
        have h := hs.out.row
        rwa [hk32, hexZ_all d HD.out] at h
      have hc : ∀ W, Below wr.heap.size wr W → (convert 22 9 (.slice (some ⟨w.heap.size + 1, 0, none⟩) 64 64)).run Tryd.prog W = .ok (.string ⟨(Dg.pairs d).toArray⟩) W := fun W hW =>
        conv_string W _ _ _ (fun j v hj => by
          have h := (hr.below hW hr.lt).cell (i := 0 + j) (by rwa [Nat.zero_add])
          rwa [Addr.add_mid]) _ (by rw [Dg.pairs_length, HD.out])
      have hc0 := hc wr (Below.refl _ _)
      have hpl : ¬ 9223372036854775807 < 7 + (Dg.pairs d).length := by rw [Dg.pairs_length, HD.out]; omega
      have hfin : (⟨#[115, 104, 97, 50, 53, 54, 58]⟩ ++ ⟨(Dg.pairs d).toArray⟩ : ByteArray) = ⟨(Dg.text d).toArray⟩ := by
        apply ByteArray.ext
        simp [Dg.text, Dg.pre]
      clear hc hr hk32
      have HF := Lib.hid hfin
      clear hfin
      go_wp2_with fail
      go_ret
      exact ⟨by rw [← HF.out]; rfl, hs.out.below⟩
end Go.Proofs.YtknfpfhbplmffaaDoor
