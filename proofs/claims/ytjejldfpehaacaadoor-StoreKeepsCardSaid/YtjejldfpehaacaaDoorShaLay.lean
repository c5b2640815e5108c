/-
  What 'lay' answers: the words of a state as bytes.
-/
import Derived.Test.YtjejldfpehaacaaDoorShaMix
import Derived.Deep.DeepMust
namespace Go.Proofs.YtjejldfpehaacaaDoor
open Go.RowKit Sh

theorem u8_of_word (x : W) (k : Nat) : IntKind.u8.wrap (n32 x / 2 ^ k) = n8 (UInt8.ofNat (x.toNat >>> k)) := by
  unfold n32 n8
  rw [IntKind.wrap_u8, Nat.shiftRight_eq_div_pow]
  simp

/-- The bytes of the first k words, zeros behind. -/
def layZ (s : St) (k : Nat) : List Value := ((s.words.take k).flatMap bytesOf ++ List.replicate (32 - 4 * k) 0).map v8

theorem bytesOf_length (x : W) : (bytesOf x).length = 4 := rfl
theorem words_length (s : St) : s.words.length = 8 := rfl
theorem flat_length (l : List W) : (l.flatMap bytesOf).length = 4 * l.length := by
  induction l with
  | nil => rfl
  | cons x r ih => simp only [List.flatMap_cons, List.length_append, ih, bytesOf_length, List.length_cons]; omega
theorem splice_append {α : Type} (A Z C : List α) (off : Nat) (h : A.length = off) : splice (A ++ Z) off C = A ++ (C ++ Z.drop C.length) := by
  subst h
  simp [splice, List.drop_append]
theorem layZ_length (s : St) (k : Nat) (hk : k ≤ 8) : (layZ s k).length = 32 := by
  simp only [layZ, List.length_map, List.length_append, flat_length, List.length_take, words_length, List.length_replicate]
  omega
theorem layZ_step (s : St) (k : Nat) (hk : k < 8) : splice (layZ s k) (4 * k) ((bytesOf (s.words.getD k 0)).map v8) = layZ s (k + 1) := by
  have hl : k < s.words.length := hk
  have h1 : ((s.words.take k).flatMap bytesOf).length = 4 * k := by rw [flat_length, List.length_take, words_length]; omega
  unfold layZ
  rw [List.map_append, splice_append _ _ _ _ (by rw [List.length_map, h1]), List.take_add_one, List.getElem?_eq_getElem hl]
  simp only [List.getD, List.getElem?_eq_getElem hl, Option.getD_some, Option.toList_some, List.flatMap_append, List.flatMap_cons, List.flatMap_nil, List.append_nil, List.map_append, List.append_assoc, List.length_map, bytesOf_length]
  rw [← List.map_drop, List.drop_replicate]
  congr 3
theorem layZ_all (s : St) : layZ s 8 = s.bytes.map v8 := by
  simp [layZ, St.bytes, St.words]
theorem layZ_zero (s : St) : layZ s 0 = List.replicate 32 (v8 0) := by simp [layZ]

structure LayAt (s : St) (B : Nat) (w wr : World) (k : Nat) : Prop where
  res : Row wr (B + 1) 31 (List.replicate 32 (v8 0))
  row : Row wr (B + 2) 31 (layZ s k)
  old : Below B w wr
  more : B + 3 ≤ wr.heap.size

theorem index_state0 (a b c d e f g h : Value) (W : World) : (Instr.index 91 (.agg #[a, b, c, d, e, f, g, h]) (.int .i64 0)).run Tryd.prog W = .ok a W := by kernel_rfl
theorem index_state1 (a b c d e f g h : Value) (W : World) : (Instr.index 91 (.agg #[a, b, c, d, e, f, g, h]) (.int .i64 1)).run Tryd.prog W = .ok b W := by kernel_rfl
theorem index_state2 (a b c d e f g h : Value) (W : World) : (Instr.index 91 (.agg #[a, b, c, d, e, f, g, h]) (.int .i64 2)).run Tryd.prog W = .ok c W := by kernel_rfl
theorem index_state3 (a b c d e f g h : Value) (W : World) : (Instr.index 91 (.agg #[a, b, c, d, e, f, g, h]) (.int .i64 3)).run Tryd.prog W = .ok d W := by kernel_rfl
theorem index_state4 (a b c d e f g h : Value) (W : World) : (Instr.index 91 (.agg #[a, b, c, d, e, f, g, h]) (.int .i64 4)).run Tryd.prog W = .ok e W := by kernel_rfl
theorem index_state5 (a b c d e f g h : Value) (W : World) : (Instr.index 91 (.agg #[a, b, c, d, e, f, g, h]) (.int .i64 5)).run Tryd.prog W = .ok f W := by kernel_rfl
theorem index_state6 (a b c d e f g h : Value) (W : World) : (Instr.index 91 (.agg #[a, b, c, d, e, f, g, h]) (.int .i64 6)).run Tryd.prog W = .ok g W := by kernel_rfl
theorem index_state7 (a b c d e f g h : Value) (W : World) : (Instr.index 91 (.agg #[a, b, c, d, e, f, g, h]) (.int .i64 7)).run Tryd.prog W = .ok h W := by kernel_rfl
theorem index_state (s : St) (k : Nat) (hk : k < 8) (W : World) : (Instr.index 91 (.agg s.vals) (.int .i64 (k : Int))).run Tryd.prog W = .ok (v32 (s.words.getD k 0)) W := by
  have h : k = 0 ∨ k = 1 ∨ k = 2 ∨ k = 3 ∨ k = 4 ∨ k = 5 ∨ k = 6 ∨ k = 7 := by omega
  rcases h with rfl | rfl | rfl | rfl | rfl | rfl | rfl | rfl
  · exact index_state0 _ _ _ _ _ _ _ _ W
  · exact index_state1 _ _ _ _ _ _ _ _ W
  · exact index_state2 _ _ _ _ _ _ _ _ W
  · exact index_state3 _ _ _ _ _ _ _ _ W
  · exact index_state4 _ _ _ _ _ _ _ _ W
  · exact index_state5 _ _ _ _ _ _ _ _ W
  · exact index_state6 _ _ _ _ _ _ _ _ W
  · exact index_state7 _ _ _ _ _ _ _ _ W

set_option maxRecDepth 100000 in
set_option maxHeartbeats 400000 in
theorem lay_any (s : St) (w : World) :
    Calls Tryd.prog 66 #[.agg s.vals] w fun e w' => e = .returned (.agg (s.bytes.map v8).toArray) ∧ Below w.heap.size w w' := by
  unfold Sh.St.vals
  go_enter Tryd.func66, Tryd.ntmps66
  go_wp2_with fail
  go_loopw [8] (fun i wr => ∃ k : Nat, k ≤ 8 ∧ i = .int .i64 k ∧ LayAt s w.heap.size w wr k) (fun i _ => 8 - (intOf i).toNat)
  case atStart =>
    refine ⟨0, Nat.zero_le _, rfl, (Row.at_ (b := w.heap.size + 1) _ _ _ rfl (by simp)).alloc _, Row.at_ (b := w.heap.size + 2) _ _ _ rfl (by simp), ?_, by simp⟩
    exact (((Below.refl _ _).alloc (by omega) _).alloc (by simp) _).alloc (by simp; omega) _
  case round =>
    obtain ⟨k, hk, rfl, hs⟩ := hrel
    by_cases hlt : k < 8
    · have hidx : ∀ W, (Instr.index 91 (.agg #[v32 s.a, v32 s.b, v32 s.c, v32 s.d, v32 s.e, v32 s.f, v32 s.g, v32 s.h]) (.int .i64 (k : Int))).run Tryd.prog W = .ok (.int .u32 (n32 (s.words.getD k 0))) W := index_state s k hlt
      generalize hx : s.words.getD k 0 = x at *
      have HX := Lib.hid hx
      have q0 := n32_nonneg x
      have q1 := n32_lt x
      have hlt' : (k : Int) < 8 := by omega
      clear hx
      go_wp2_with fail
      have r1 : Row (wr.alloc (.cells [v8 (UInt8.ofNat (x.toNat >>> 24)), v8 (UInt8.ofNat (x.toNat >>> 16)), v8 (UInt8.ofNat (x.toNat >>> 8)), v8 (UInt8.ofNat x.toNat)].toArray 108)) wr.heap.size 108 ((bytesOf x).map v8) := Row.new _ _ _
      have e : [v8 (UInt8.ofNat (x.toNat >>> 24)), v8 (UInt8.ofNat (x.toNat >>> 16)), v8 (UInt8.ofNat (x.toNat >>> 8)), v8 (UInt8.ofNat x.toNat)].toArray = #[.int .u8 (n32 x / 16777216), .int .u8 (n32 x / 65536 % 256), .int .u8 (n32 x / 256 % 256), .int .u8 (n32 x % 256)] := by
        simp only [v8, n8, n32, UInt8.toNat_ofNat', Nat.shiftRight_eq_div_pow]
        have := x.isLt
        simp
        omega
      rw [e] at r1
      generalize hW3 : wr.alloc _ = W3
      rw [hW3] at r1
      have k3 : Kept wr W3 (fun _ => False) := by rw [← hW3]; exact (Kept.refl _ _).alloc _
      have R1 := Lib.hid r1
      have K3 := Lib.hid k3
      have e0 : IntKind.i64.wrap (4 * (k : Int)) = 4 * (k : Int) := IntWalk.i64_in _ (by omega)
      have l0 : 0 ≤ 4 * (k : Int) ∧ 4 * (k : Int) ≤ 32 := by omega
      have n0 : ¬ 32 = 4 * k := by omega
      have t0 : (4 * (k : Int)).toNat = 4 * k := by omega
      clear hidx r1 k3 hW3 e
      go_still_tail 4, (by kernel_rfl)
      show wpList _ _ _ _ _ (W3.drewN _)
      clear e0 t0 l0
      refine wpList_copy_kept rfl (.tmp 26) (.tmp 27) 29 29 rfl 5 Tryd.underlying29 (by kernel_rfl) (some ⟨w.heap.size + 1 + 1, 4 * k, none⟩) (some ⟨wr.heap.size, 0, none⟩) (32 - 4 * k) (32 - 4 * k) 4 4 rfl rfl (w.heap.size + 1 + 1) (4 * k) (layZ s k) 31 ?_ ((bytesOf x).map v8) ?_ ?_ ?_ ?_ ?_
      · exact (K3.out.row hs.row (fun h => h)).drewN 1
      · simp only [List.length_map, bytesOf_length]; exact (Nat.min_eq_left (by omega)).symm
      · exact fun _ => ⟨rfl, _, rfl, fun j v hj => (R1.out.drewN 1).cell (by simpa [Addr.add] using hj) |> fun h => by rw [Addr.add_mid]; simpa using h⟩
      · rw [layZ_length s k hk, List.length_map, bytesOf_length]; omega
      · intro v hv
        obtain ⟨y, _, rfl⟩ := List.mem_map.1 hv
        rfl
      intro w4 R4 K4
      go_wp2_with fail
      go_roundw
      case rel =>
        refine ⟨k + 1, by omega, by go_num, ?_, ?_, ?_, ?_⟩
        · exact K4.out.row ((K3.out.row hs.res (fun h => h)).drewN 1) (by omega)
        · have h := R4.out
          rw [← HX.out, layZ_step s k hlt] at h
          exact h
        · exact hs.old.trans ((K3.out.drewN 1).below (Nat.le_trans (by omega) hs.more) (fun _ _ h => h) |>.trans (K4.out.below (Nat.le_trans (by omega) (Nat.le_trans hs.more K3.out.size)) (by omega)))
        · exact Nat.le_trans hs.more (Nat.le_trans K3.out.size K4.out.size)
      case measure => simp [intOf] <;> omega
    · have hk8 : k = 8 := by omega
      have hw : Row wr (w.heap.size + 1 + 1) 31 (s.bytes.map v8) := by have h := hs.row; rw [hk8, layZ_all] at h; exact h
      have hz : Row wr (w.heap.size + 1) 31 (List.replicate 32 (v8 0)) := hs.res
      have hl : (s.bytes.map v8).length = 32 := rfl
      have h1 := oneCell_map v8 (fun _ => rfl) s.bytes
      have hold := hs.old
      generalize hR : s.bytes.map v8 = R at *
      have HR := Lib.hid hR
      unfold Row at hw hz
      have HW := Lib.hid hw
      have HZ := Lib.hid hz
      have HL := Lib.hid hl
      have H1 := Lib.hid h1
      clear hw hz hl h1 hs hk8 hR
      go_wp2_with (first
        | ((with_reducible refine wpList_load_row ?_ 31 (.tmp 3) ?_ (w.heap.size + 1 + 1) ?_ 31 R.toArray (0, 0) (.array 32 5) ?_ ?_ ?_ ?_ ?_); rfl; rfl; go_must (rfl; exact HW.out; exact Tryd.underlying31; rfl; (simp only [List.size_toArray, HL.out]; kernel_rfl)))
        | ((with_reducible refine wpList_store_row ?_ 31 (.tmp 2) (.tmp 30) ?_ (w.heap.size + 1) R.toArray ?_ ?_ 31 (List.replicate 32 (v8 0)).toArray ?_ ?_ ?_ ?_ ?_); rfl; rfl; go_must (rfl; rfl; exact HZ.out; (simp only [List.size_toArray, HL.out]; kernel_rfl); (simp only [List.size_toArray, List.length_replicate, HL.out]); exact H1.out)))
      refine bodyPost_ret (v := .agg R.toArray) (results_cell_row rfl _ _ (w.heap.size + 1) _ R.toArray _ _ rfl (setRow_heap wr (w.heap.size + 1) _ _ _ _ HZ.out) Tryd.underlying31 rfl (by simp only [List.size_toArray, HL.out]; kernel_rfl)) rfl ⟨by rw [HR.out], ?_⟩
      exact below_setRow hold (by omega) _
end Go.Proofs.YtjejldfpehaacaaDoor
